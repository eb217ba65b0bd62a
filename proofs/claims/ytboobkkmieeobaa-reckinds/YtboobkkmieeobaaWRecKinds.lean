/- RecKinds: the walk of the law's Go text. -/
import Derived.Test.YtboobkkmieeobaaRec7
import Derived.Deep.CutBlock
set_option linter.unusedSimpArgs false
set_option linter.unusedVariables false
namespace Go.Proofs.Ytboobkkmieeobaa
open Go.ChangeShapes Go.WideShapes Go.ChangeAt Go.RowKit

theorem and_leK (a : Int) (m : Nat) (hm : m < 9223372036854775808) : ∃ i : Nat, i ≤ m ∧ bits .and .i64 a (m : Int) = (i : Int) := by
  refine ⟨(BitVec.ofInt 64 a &&& BitVec.ofInt 64 (m : Int)).toNat, ?_, ?_⟩
  · rw [BitVec.toNat_and]
    refine Nat.le_trans Nat.and_le_right ?_
    rw [BitVec.ofInt_natCast, BitVec.toNat_ofNat]
    exact Nat.mod_le _ _
  · have hle : (BitVec.ofInt 64 a &&& BitVec.ofInt 64 (m : Int)).toNat ≤ m := by
      rw [BitVec.toNat_and]
      refine Nat.le_trans Nat.and_le_right ?_
      rw [BitVec.ofInt_natCast, BitVec.toNat_ofNat]
      exact Nat.mod_le _ _
    show IntKind.i64.wrap ((BitVec.ofInt 64 a &&& BitVec.ofInt 64 (m : Int)).toNat : Int) = _
    rw [IntKind.wrap_i64]
    omega

set_option maxRecDepth 100000 in
set_option maxHeartbeats 4000000 in
theorem alike_same (x : OpenV) (a : Option Addr) (n c : Nat) (w : World) (h : Rd w (.slice x.ra x.rn x.rc) (sv x.rs)) (h2 : Rd w (.slice a n c) (sv x.rs)) : Calls Try.prog 20 #[.agg #[.int .u64 x.num, .int .i64 x.node, .int .u64 x.last, .int .u64 x.first, .int .i64 x.count, .bool x.ready, .slice x.ra x.rn x.rc], .agg #[.int .u64 x.num, .int .i64 x.node, .int .u64 x.last, .int .u64 x.first, .int .i64 x.count, .bool x.ready, .slice a n c]] w fun e w' => e = .returned (.bool true) ∧ Below w.heap.size w w' := by
  have H1 : Hid (Rd w (.slice x.ra x.rn x.rc) (sv x.rs)) := h
  have H2 : Hid (Rd w (.slice a n c) (sv x.rs)) := h2
  clear h h2
  have HA : Hid (Blk ((w.alloc (.cells #[.int .u64 x.num, .int .i64 x.node, .int .u64 x.last, .int .u64 x.first, .int .i64 x.count, .bool x.ready, .slice x.ra x.rn x.rc] 46)).alloc (.cells #[.int .u64 x.num, .int .i64 x.node, .int .u64 x.last, .int .u64 x.first, .int .i64 x.count, .bool x.ready, .slice a n c] 46)) w.heap.size #[.int .u64 x.num, .int .i64 x.node, .int .u64 x.last, .int .u64 x.first, .int .i64 x.count, .bool x.ready, .slice x.ra x.rn x.rc] 46) := (Blk.new _ _ _).alloc _
  have HR : Hid (Blk ((w.alloc (.cells #[.int .u64 x.num, .int .i64 x.node, .int .u64 x.last, .int .u64 x.first, .int .i64 x.count, .bool x.ready, .slice x.ra x.rn x.rc] 46)).alloc (.cells #[.int .u64 x.num, .int .i64 x.node, .int .u64 x.last, .int .u64 x.first, .int .i64 x.count, .bool x.ready, .slice a n c] 46)) (w.heap.size + 1) #[.int .u64 x.num, .int .i64 x.node, .int .u64 x.last, .int .u64 x.first, .int .i64 x.count, .bool x.ready, .slice a n c] 46) := blk_two _ _ _ _ _
  have HY : Hid (Below w.heap.size w ((w.alloc (.cells #[.int .u64 x.num, .int .i64 x.node, .int .u64 x.last, .int .u64 x.first, .int .i64 x.count, .bool x.ready, .slice x.ra x.rn x.rc] 46)).alloc (.cells #[.int .u64 x.num, .int .i64 x.node, .int .u64 x.last, .int .u64 x.first, .int .i64 x.count, .bool x.ready, .slice a n c] 46))) := ((Below.refl _ _).alloc (Nat.le_refl _) _).alloc (by simp) _
  go_enter Try.func20, Try.ntmps20
  go_upto_region 1 with fail
  generalize ((w.alloc (.cells #[.int .u64 x.num, .int .i64 x.node, .int .u64 x.last, .int .u64 x.first, .int .i64 x.count, .bool x.ready, .slice x.ra x.rn x.rc] 46)).alloc (.cells #[.int .u64 x.num, .int .i64 x.node, .int .u64 x.last, .int .u64 x.first, .int .i64 x.count, .bool x.ready, .slice a n c] 46)) = w0 at *
  have z0 : w0.cell? ⟨w.heap.size, 0, none⟩ = some (.int .u64 x.num) := HA.out.cell 0
  have y0 : w0.cell? ⟨w.heap.size + 1, 0, none⟩ = some (.int .u64 x.num) := HR.out.cell 0
  have z1 : w0.cell? ⟨w.heap.size, 1, none⟩ = some (.int .i64 x.node) := HA.out.cell 1
  have y1 : w0.cell? ⟨w.heap.size + 1, 1, none⟩ = some (.int .i64 x.node) := HR.out.cell 1
  have z2 : w0.cell? ⟨w.heap.size, 2, none⟩ = some (.int .u64 x.last) := HA.out.cell 2
  have y2 : w0.cell? ⟨w.heap.size + 1, 2, none⟩ = some (.int .u64 x.last) := HR.out.cell 2
  have z3 : w0.cell? ⟨w.heap.size, 3, none⟩ = some (.int .u64 x.first) := HA.out.cell 3
  have y3 : w0.cell? ⟨w.heap.size + 1, 3, none⟩ = some (.int .u64 x.first) := HR.out.cell 3
  have z4 : w0.cell? ⟨w.heap.size, 4, none⟩ = some (.int .i64 x.count) := HA.out.cell 4
  have y4 : w0.cell? ⟨w.heap.size + 1, 4, none⟩ = some (.int .i64 x.count) := HR.out.cell 4
  have z5 : w0.cell? ⟨w.heap.size, 5, none⟩ = some (.bool x.ready) := HA.out.cell 5
  have y5 : w0.cell? ⟨w.heap.size + 1, 5, none⟩ = some (.bool x.ready) := HR.out.cell 5
  have z6 : w0.cell? ⟨w.heap.size, 6, none⟩ = some (.slice x.ra x.rn x.rc) := HA.out.cell 6
  have y6 : w0.cell? ⟨w.heap.size + 1, 6, none⟩ = some (.slice a n c) := HR.out.cell 6
  go_wp2_with fail
  have HS : Hid (Calls Try.prog 40 #[.slice x.ra x.rn x.rc, .slice a n c] w0 fun e w' => e = .returned (.bool true) ∧ Below w0.heap.size w0 w') := by
    have := strs_any _ _ x.rs x.rs w0 (H1.out.below HY.out) (H2.out.below HY.out)
    rw [decide_eq_true rfl] at this
    exact this
  refine HS.out.mono ?_
  rintro e w1 ⟨rfl, y⟩
  have HY1 : Hid (Below w.heap.size w w1) := ext_trans HY.out y
  clear y
  go_wp2
  go_ret
  exact ⟨ret_bool rfl, HY1.out⟩


theorem emp_size : (⟨#[]⟩ : ByteArray).size = 0 := rfl
theorem emp_yes : (⟨#[]⟩ : ByteArray).toList.isEmpty = true := by kernel_rfl
theorem emp_no1 : (⟨#[120]⟩ : ByteArray).toList.isEmpty = false := by kernel_rfl
theorem emp_no2 : (⟨#[107]⟩ : ByteArray).toList.isEmpty = false := by kernel_rfl
theorem key_k : keyOk (⟨#[107]⟩ : ByteArray) = true := by kernel_rfl
theorem key_x : keyOk (⟨#[120]⟩ : ByteArray) = true := by kernel_rfl
theorem reads_ab : readsOk [(⟨#[97]⟩ : ByteArray), ⟨#[98]⟩] = true := by kernel_rfl
theorem reads_z : readsOk [(⟨#[122]⟩ : ByteArray)] = true := by kernel_rfl
theorem nodes_15 : nodesOk [1, 5] = true := by kernel_rfl
theorem nodes_0 : nodesOk [] = true := by kernel_rfl
theorem fit_one {α : Type} (r : α → Bool) (a : α → α → Bool) (d : α) (m : Nat) (x : α) (h : 1 ≤ m) (hx : r x = true) : fitsB r a d m [x] = true := by
  unfold fitsB
  simp [allB, fitAt, hx, h]
theorem fit_none {α : Type} (r : α → Bool) (a : α → α → Bool) (d : α) (m : Nat) : fitsB r a d m [] = true := by
  unfold fitsB
  simp [allB]
/-- What a record without pages is, part by part. -/
theorem right_parts (k n y : Int) (key : ByteArray) (was : Bool) (old : ByteArray) (prev : Int) (na nn nc ns ra rn rc rs ga gn gc oa om oc os da dn dc ds) :
    rightRec (RecV.mk k n y key was old prev na nn nc ns ra rn rc rs ga gn gc [] oa om oc os da dn dc ds) = (decide (1 ≤ k) && decide (k ≤ 8) && (if k = 8 then decide (n = 0) && decide (y = 0) else tidOk n y) && (if k = 1 then keyOk key && decide (old.size ≤ 48) && (was || old.toList.isEmpty) else key.toList.isEmpty && !was && old.toList.isEmpty) && (if k = 1 ∨ k = 2 then decide (prev ≤ 4611686018427387904) else decide (prev = 0)) && ((decide (rs.length = 0) || decide (k = 3) && readsOk rs) && (decide (ns.length = 0) || decide (k = 6) && nodesOk ns) && (decide (os.length = 0) || decide (k = 8) && fitsB openOk openLt noOpen 200 os) && (decide (ds.length = 0) || decide (k = 8) && fitsB doneOk doneLt noDone 200 ds))) := by
  unfold rightRec rtTid rtOld rtTurn rtLists rtReads rtNodes rtOpens rtDones
  simp only [fit_none, Bool.and_true, List.length_nil, decide_true]
theorem open_ok {tn ty : Int} (h : tidOk tn ty = true) (g : Option Addr) (n c : Nat) : openOk (OpenV.mk tn ty 0 0 0 false g n c [(⟨#[122]⟩ : ByteArray)]) = true := by
  unfold openOk
  simp [h, reads_z]
theorem done_ok {tn ty : Int} (h : tidOk tn ty = true) (g : Option Addr) (n c : Nat) : doneOk (DoneV.mk tn ty g n c []) = true := by
  unfold doneOk
  simp [h, nodes_0]
theorem own_set1 {W : World} {B : Nat} {v : Value} {ks : List ByteArray} {i : Nat} (h : OwnV W B 9 v (sv ks)) (hi : i < ks.length) (x : ByteArray) :
    ∃ g cap, v = .slice (some ⟨g, 0, none⟩) ks.length cap ∧ B ≤ g ∧ (W.cell? ⟨g, i, none⟩).isSome = true ∧ ∃ cur, Blk W g cur 9 := by
  have hkl : (sv ks).length = ks.length := sv_length ks
  rcases h.2 with ⟨_, hn⟩ | ⟨g, cap, cur, rfl, hb, hg, hnc, hcm, hcs, ht⟩
  · omega
  · rw [hkl] at hnc ht ⊢
    rw [Nat.mul_one] at hcs ht
    have hG : Blk W g cur 9 := hg
    exact ⟨g, cap, rfl, hb, by rw [hG.cell]; simp; omega, cur, hG⟩
/-- Where the law stands behind its switch: a record in block b7, and whether it is right. -/
def RK (w : World) (b7 : Nat) (tn ty : Int) (b : Bool) (wx : World) : Prop :=
  ∃ x : RecV, rightRec x = b ∧ Blk wx b7 #[.int .i64 x.kind, .int .u64 x.num, .int .i64 x.node, .string x.key, .bool x.was, .string x.old, .int .u64 x.prev, .slice x.na x.nn x.nc, .slice x.ra x.rn x.rc, .slice x.ga x.gn x.gc, .slice x.oa x.om x.oc, .slice x.da x.dn x.dc] 36 ∧ x.At wx ∧ Blk wx w.heap.size #[.int .u64 tn, .int .i64 ty] 24 ∧ Below w.heap.size w wx ∧ w.heap.size < b7
theorem rowsN_one {α : Type} {W : World} {g : Nat} {T : TypeId} {k : Nat} {cs : α → List Value} {x : α} (h : Blk W g (cs x).toArray T) : RowsN W k cs (.slice (some ⟨g, 0, none⟩) 1 1) [x] := by
  refine ⟨some ⟨g, 0, none⟩, 1, rfl, Nat.le_refl _, by simp [maxLen], fun e => (by cases e), fun ad had i y hy j u hu => ?_⟩
  cases had
  match i, hy with
  | 0, hy =>
    cases hy
    rw [show (⟨g, 0, none⟩ : Addr).add (0 * k + j) = ⟨g, j, none⟩ by by_cases h0 : j = 0 <;> simp [Addr.add, h0]]
    rw [h.cell j]
    simpa using hu
set_option maxRecDepth 100000 in
set_option maxHeartbeats 8000000 in
theorem walk_RecKinds (kind field : Int) (tn ty : Int) (w : World) (_h0 : (Lit.int .i64 kind).wf = true) (_h1 : (Lit.int .i64 field).wf = true) (_h2 : (Lit.int .u64 tn).wf = true ∧ (Lit.int .i64 ty).wf = true) :
    Calls Try.prog 5 #[.int .i64 kind, .int .i64 field, .agg #[.int .u64 tn, .int .i64 ty]] w fun e w' => e = .returned (.bool true) ∧ Below w.heap.size w w' := by
  obtain ⟨m, hm, hm0⟩ := and_leK kind 7 (by omega)
  have hia : bits .and .i64 kind 7 = (m : Int) := hm0
  obtain ⟨f, hf, hf0⟩ := and_leK field 7 (by omega)
  have hib : bits .and .i64 field 7 = (f : Int) := hf0
  clear hm0 hf0 _h0 _h1 _h2
  have HB5 : Hid (Blk (w.alloc (.cells #[.int .u64 tn, .int .i64 ty] 24)) w.heap.size #[.int .u64 tn, .int .i64 ty] 24) := Blk.new _ _ _
  have HY5 : Hid (Below w.heap.size w (w.alloc (.cells #[.int .u64 tn, .int .i64 ty] 24))) := (Below.refl _ _).alloc (Nat.le_refl _) _
  go_enter Try.func5, Try.ntmps5
  go_upto_region 1 with fail
  generalize w.alloc (.cells #[.int .u64 tn, .int .i64 ty] 24) = w0 at *
  go_wp2_with fail
  refine (head11_any _).mono ?_
  rintro e w1 ⟨rfl, y⟩
  have HB1 : Hid (Blk w1 w.heap.size #[.int .u64 tn, .int .i64 ty] 24) := Blk.of HB5.out (y.block _ HB5.out.lt)
  have HY1 : Hid (Below w.heap.size w w1) := ext_trans HY5.out y
  clear y HB5 HY5
  have z0 : w1.cell? ⟨w.heap.size, 0, none⟩ = some (.int .u64 tn) := HB1.out.cell 0
  have z1 : w1.cell? ⟨w.heap.size, 1, none⟩ = some (.int .i64 ty) := HB1.out.cell 1
  go_wp2_with fail
  refine (tid11_any _ _ _).mono ?_
  rintro e w2 ⟨rfl, y⟩
  have HB2 : Hid (Blk w2 w.heap.size #[.int .u64 tn, .int .i64 ty] 24) := Blk.of HB1.out (y.block _ HB1.out.lt)
  have HY2 : Hid (Below w.heap.size w w2) := ext_trans HY1.out y
  clear y HB1 HY1 z0 z1
  cases ht : tidOk tn ty with
  | false =>
    go_wp2
    go_ret
    exact ⟨ret_bool rfl, HY2.out⟩
  | true =>
    have HT : Hid (tidOk tn ty = true) := ht
    clear ht
    have z0 : w2.cell? ⟨w.heap.size, 0, none⟩ = some (.int .u64 tn) := HB2.out.cell 0
    have z1 : w2.cell? ⟨w.heap.size, 1, none⟩ = some (.int .i64 ty) := HB2.out.cell 1
    have HB7 : Hid (Blk (w2.alloc (.cells #[.int .i64 (1 + (m : Int)), .int .u64 tn, .int .i64 ty, .string (⟨#[]⟩ : ByteArray), .bool false, .string (⟨#[]⟩ : ByteArray), .int .u64 0, .slice none 0 0, .slice none 0 0, .slice none 0 0, .slice none 0 0, .slice none 0 0] 36)) w2.heap.size #[.int .i64 (1 + (m : Int)), .int .u64 tn, .int .i64 ty, .string (⟨#[]⟩ : ByteArray), .bool false, .string (⟨#[]⟩ : ByteArray), .int .u64 0, .slice none 0 0, .slice none 0 0, .slice none 0 0, .slice none 0 0, .slice none 0 0] 36) := Blk.new _ _ _
    have HT4 : Hid (Blk (w2.alloc (.cells #[.int .i64 (1 + (m : Int)), .int .u64 tn, .int .i64 ty, .string (⟨#[]⟩ : ByteArray), .bool false, .string (⟨#[]⟩ : ByteArray), .int .u64 0, .slice none 0 0, .slice none 0 0, .slice none 0 0, .slice none 0 0, .slice none 0 0] 36)) w.heap.size #[.int .u64 tn, .int .i64 ty] 24) := HB2.out.alloc _
    have HY4 : Hid (Below w.heap.size w (w2.alloc (.cells #[.int .i64 (1 + (m : Int)), .int .u64 tn, .int .i64 ty, .string (⟨#[]⟩ : ByteArray), .bool false, .string (⟨#[]⟩ : ByteArray), .int .u64 0, .slice none 0 0, .slice none 0 0, .slice none 0 0, .slice none 0 0, .slice none 0 0] 36))) := HY2.out.alloc HY2.out.size _
    have HSZ : Hid (w.heap.size < w2.heap.size) := HB2.out.lt
    go_upto_region 7 with fail
    generalize (w2.alloc (.cells #[.int .i64 (1 + (m : Int)), .int .u64 tn, .int .i64 ty, .string (⟨#[]⟩ : ByteArray), .bool false, .string (⟨#[]⟩ : ByteArray), .int .u64 0, .slice none 0 0, .slice none 0 0, .slice none 0 0, .slice none 0 0, .slice none 0 0] 36)) = w3 at *
    obtain ⟨b7, hb7⟩ : ∃ b, w2.heap.size = b := ⟨_, rfl⟩
    rw [hb7] at HB7 HSZ ⊢
    obtain ⟨K, hK⟩ : ∃ K : Int, 1 + (m : Int) = K := ⟨_, rfl⟩
    have hKl : 1 ≤ K := by omega
    have hKh : K ≤ 8 := by omega
    rw [hK] at HB7 ⊢
    clear hb7 hK hm hia z0 z1 HB2 HY2
    by_cases h8 : K = 8
    · subst h8
      clear hKl hKh
      have z0 := HB7.out.cell 0
      have z1 := HB7.out.cell 1
      have z2 := HB7.out.cell 2
      have f1 := HB7.out.frozen 1
      have f2 := HB7.out.frozen 2
      have HBZ : Hid (Blk ((w3.setCell ⟨b7, 1, none⟩ (.int .u64 0)).setCell ⟨b7, 2, none⟩ (.int .i64 0)) b7 #[.int .i64 8, .int .u64 0, .int .i64 0, .string (⟨#[]⟩ : ByteArray), .bool false, .string (⟨#[]⟩ : ByteArray), .int .u64 0, .slice none 0 0, .slice none 0 0, .slice none 0 0, .slice none 0 0, .slice none 0 0] 36) := by show Blk _ _ _ _; have := (HB7.out.set 1 (.int .u64 0)).set 2 (.int .i64 0); simpa using this
      have HTZ : Hid (Blk ((w3.setCell ⟨b7, 1, none⟩ (.int .u64 0)).setCell ⟨b7, 2, none⟩ (.int .i64 0)) w.heap.size #[.int .u64 tn, .int .i64 ty] 24) := (HT4.out.setOther _ _ (by have := HSZ.out; omega)).setOther _ _ (by have := HSZ.out; omega)
      have HYZ : Hid (Below w.heap.size w ((w3.setCell ⟨b7, 1, none⟩ (.int .u64 0)).setCell ⟨b7, 2, none⟩ (.int .i64 0))) := (HY4.out.setCell (by have := HSZ.out; show _ ≤ b7; omega) _).setCell (by have := HSZ.out; show _ ≤ b7; omega) _
      go_upto_region 11 with fail
      generalize ((w3.setCell ⟨b7, 1, none⟩ (.int .u64 0)).setCell ⟨b7, 2, none⟩ (.int .i64 0)) = w4 at *
      clear z0 z1 z2 f1 f2 HB7 HT4 HY4
      have HB7 := HBZ
      have HT4 := HTZ
      have HY4 := HYZ
      clear HBZ HTZ HYZ
      have HX0 : Hid ((RecV.mk 8 0 0 (⟨#[]⟩ : ByteArray) false (⟨#[]⟩ : ByteArray) 0 none 0 0 [] none 0 0 [] none 0 0 [] none 0 0 [] none 0 0 []).At w4) := recOf_at w4 8 0 0 (⟨#[]⟩ : ByteArray) false (⟨#[]⟩ : ByteArray) 0 (by decide) (by decide)
      have HR0 : Hid (rightRec (RecV.mk 8 0 0 (⟨#[]⟩ : ByteArray) false (⟨#[]⟩ : ByteArray) 0 none 0 0 [] none 0 0 [] none 0 0 [] none 0 0 [] none 0 0 []) = true) := by show _ = _; rw [right_parts]; simp [emp_yes]
      have HRC : Hid (Calls Try.prog 18 #[.agg #[.int .i64 8, .int .u64 0, .int .i64 0, .string (⟨#[]⟩ : ByteArray), .bool false, .string (⟨#[]⟩ : ByteArray), .int .u64 0, .slice none 0 0, .slice none 0 0, .slice none 0 0, .slice none 0 0, .slice none 0 0]] w4 fun e w' => e = .returned (.bool true) ∧ Below w4.heap.size w4 w') := by have := recRight_any (RecV.mk 8 0 0 (⟨#[]⟩ : ByteArray) false (⟨#[]⟩ : ByteArray) 0 none 0 0 [] none 0 0 [] none 0 0 [] none 0 0 [] none 0 0 []) w4 HX0.out; rw [HR0.out] at this; exact this
      clear HX0 HR0
      have z0 : w4.cell? ⟨b7, 0, none⟩ = some _ := HB7.out.cell 0
      have z1 : w4.cell? ⟨b7, 1, none⟩ = some _ := HB7.out.cell 1
      have z2 : w4.cell? ⟨b7, 2, none⟩ = some _ := HB7.out.cell 2
      have z3 : w4.cell? ⟨b7, 3, none⟩ = some _ := HB7.out.cell 3
      have z4 : w4.cell? ⟨b7, 4, none⟩ = some _ := HB7.out.cell 4
      have z5 : w4.cell? ⟨b7, 5, none⟩ = some _ := HB7.out.cell 5
      have z6 : w4.cell? ⟨b7, 6, none⟩ = some _ := HB7.out.cell 6
      have z7 : w4.cell? ⟨b7, 7, none⟩ = some _ := HB7.out.cell 7
      have z8 : w4.cell? ⟨b7, 8, none⟩ = some _ := HB7.out.cell 8
      have z9 : w4.cell? ⟨b7, 9, none⟩ = some _ := HB7.out.cell 9
      have z10 : w4.cell? ⟨b7, 10, none⟩ = some _ := HB7.out.cell 10
      have z11 : w4.cell? ⟨b7, 11, none⟩ = some _ := HB7.out.cell 11
      go_wp2_with fail
      refine HRC.out.mono ?_
      rintro e w5 ⟨rfl, y⟩
      have HB8 : Hid (Blk w5 b7 #[.int .i64 8, .int .u64 0, .int .i64 0, .string (⟨#[]⟩ : ByteArray), .bool false, .string (⟨#[]⟩ : ByteArray), .int .u64 0, .slice none 0 0, .slice none 0 0, .slice none 0 0, .slice none 0 0, .slice none 0 0] 36) := Blk.of HB7.out (y.block _ HB7.out.lt)
      have HT5 : Hid (Blk w5 w.heap.size #[.int .u64 tn, .int .i64 ty] 24) := Blk.of HT4.out (y.block _ HT4.out.lt)
      have HY5 : Hid (Below w.heap.size w w5) := ext_trans HY4.out y
      clear y HB7 HT4 HY4 HRC z0 z1 z2 z3 z4 z5 z6 z7 z8 z9 z10 z11
      go_upto_block 0 with fail
      go_cut [8] from 34 to 78 (fun s8 wx => ∃ b, s8 = .bool b ∧ RK w b7 tn ty b wx)
      case first =>
        rcases (show f = 0 ∨ f = 1 ∨ f = 2 ∨ f = 3 ∨ f = 4 ∨ f = 5 ∨ f = 6 ∨ f = 7 by omega) with rfl | rfl | rfl | rfl | rfl | rfl | rfl | rfl
        · have HRX : Hid (rightRec (RecV.mk 8 0 0 (⟨#[120]⟩ : ByteArray) false (⟨#[]⟩ : ByteArray) 0 none 0 0 [] none 0 0 [] none 0 0 [] none 0 0 [] none 0 0 []) = false) := by
            show _ = _
            rw [right_parts]
            simp [emp_size, emp_yes, emp_no1, emp_no2, key_k, key_x, reads_ab, nodes_15, HT.out]
          have hsz : w5.heap.size ≤ w5.heap.size := Nat.le_refl _
          have HBA : Hid (Blk w5 b7 #[.int .i64 8, .int .u64 0, .int .i64 0, .string (⟨#[]⟩ : ByteArray), .bool false, .string (⟨#[]⟩ : ByteArray), .int .u64 0, .slice none 0 0, .slice none 0 0, .slice none 0 0, .slice none 0 0, .slice none 0 0] 36) := HB8
          have HTA := HT5
          have HYA := HY5
          have HBX : Hid (Blk (w5.setCell ⟨b7, 3, none⟩ (.string (⟨#[120]⟩ : ByteArray))) b7 #[.int .i64 8, .int .u64 0, .int .i64 0, .string (⟨#[120]⟩ : ByteArray), .bool false, .string (⟨#[]⟩ : ByteArray), .int .u64 0, .slice none 0 0, .slice none 0 0, .slice none 0 0, .slice none 0 0, .slice none 0 0] 36) := by show Blk _ _ _ _; have := HBA.out.set 3 (.string (⟨#[120]⟩ : ByteArray)); simpa using this
          have HTX : Hid (Blk (w5.setCell ⟨b7, 3, none⟩ (.string (⟨#[120]⟩ : ByteArray))) w.heap.size #[.int .u64 tn, .int .i64 ty] 24) := HTA.out.setOther _ _ (by have := HSZ.out; omega)
          have HYX : Hid (Below w.heap.size w (w5.setCell ⟨b7, 3, none⟩ (.string (⟨#[120]⟩ : ByteArray)))) := HYA.out.setCell (by have := HSZ.out; show _ ≤ b7; omega) _
          have HLT : Hid (b7 < w5.heap.size) := HB8.out.lt
          have HAX : Hid (RecV.At (w5.setCell ⟨b7, 3, none⟩ (.string (⟨#[120]⟩ : ByteArray))) (RecV.mk 8 0 0 (⟨#[120]⟩ : ByteArray) false (⟨#[]⟩ : ByteArray) 0 none 0 0 [] none 0 0 [] none 0 0 [] none 0 0 [] none 0 0 [])) := ⟨(show ByteArray.size (⟨#[120]⟩ : ByteArray) ≤ maxLen by decide), (show ByteArray.size (⟨#[]⟩ : ByteArray) ≤ maxLen by decide), Rd.nil _, Rd.nil _, (fun s hs => nomatch hs), RowsN.nil _ _ _, (fun s hs => nomatch hs), RowsN.nil _ _ _, (fun s hs => nomatch hs), RowsN.nil _ _ _, (fun s hs => nomatch hs)⟩
          have HRK : Hid (RK w b7 tn ty (false) (w5.setCell ⟨b7, 3, none⟩ (.string (⟨#[120]⟩ : ByteArray)))) := ⟨(RecV.mk 8 0 0 (⟨#[120]⟩ : ByteArray) false (⟨#[]⟩ : ByteArray) 0 none 0 0 [] none 0 0 [] none 0 0 [] none 0 0 [] none 0 0 []), HRX.out, HBX.out, HAX.out, HTX.out, HYX.out, HSZ.out⟩
          have z3 : w5.cell? ⟨b7, 3, none⟩ = some _ := HBA.out.cell 3
          have f3 : w5.frozen? ⟨b7, 3, none⟩ = false := HBA.out.frozen 3
          clear HRX HBA HTA HYA HBX HTX HYX HAX HLT hsz
          go_wp2
          go_meet
          case rel => exact ⟨false, by first | rfl | simp, HRK.out⟩
        · have HRX : Hid (rightRec (RecV.mk 8 0 0 (⟨#[]⟩ : ByteArray) true (⟨#[]⟩ : ByteArray) 0 none 0 0 [] none 0 0 [] none 0 0 [] none 0 0 [] none 0 0 []) = false) := by
            show _ = _
            rw [right_parts]
            simp [emp_size, emp_yes, emp_no1, emp_no2, key_k, key_x, reads_ab, nodes_15, HT.out]
          have hsz : w5.heap.size ≤ w5.heap.size := Nat.le_refl _
          have HBA : Hid (Blk w5 b7 #[.int .i64 8, .int .u64 0, .int .i64 0, .string (⟨#[]⟩ : ByteArray), .bool false, .string (⟨#[]⟩ : ByteArray), .int .u64 0, .slice none 0 0, .slice none 0 0, .slice none 0 0, .slice none 0 0, .slice none 0 0] 36) := HB8
          have HTA := HT5
          have HYA := HY5
          have HBX : Hid (Blk (w5.setCell ⟨b7, 4, none⟩ (.bool true)) b7 #[.int .i64 8, .int .u64 0, .int .i64 0, .string (⟨#[]⟩ : ByteArray), .bool true, .string (⟨#[]⟩ : ByteArray), .int .u64 0, .slice none 0 0, .slice none 0 0, .slice none 0 0, .slice none 0 0, .slice none 0 0] 36) := by show Blk _ _ _ _; have := HBA.out.set 4 (.bool true); simpa using this
          have HTX : Hid (Blk (w5.setCell ⟨b7, 4, none⟩ (.bool true)) w.heap.size #[.int .u64 tn, .int .i64 ty] 24) := HTA.out.setOther _ _ (by have := HSZ.out; omega)
          have HYX : Hid (Below w.heap.size w (w5.setCell ⟨b7, 4, none⟩ (.bool true))) := HYA.out.setCell (by have := HSZ.out; show _ ≤ b7; omega) _
          have HLT : Hid (b7 < w5.heap.size) := HB8.out.lt
          have HAX : Hid (RecV.At (w5.setCell ⟨b7, 4, none⟩ (.bool true)) (RecV.mk 8 0 0 (⟨#[]⟩ : ByteArray) true (⟨#[]⟩ : ByteArray) 0 none 0 0 [] none 0 0 [] none 0 0 [] none 0 0 [] none 0 0 [])) := ⟨(show ByteArray.size (⟨#[]⟩ : ByteArray) ≤ maxLen by decide), (show ByteArray.size (⟨#[]⟩ : ByteArray) ≤ maxLen by decide), Rd.nil _, Rd.nil _, (fun s hs => nomatch hs), RowsN.nil _ _ _, (fun s hs => nomatch hs), RowsN.nil _ _ _, (fun s hs => nomatch hs), RowsN.nil _ _ _, (fun s hs => nomatch hs)⟩
          have HRK : Hid (RK w b7 tn ty (false) (w5.setCell ⟨b7, 4, none⟩ (.bool true))) := ⟨(RecV.mk 8 0 0 (⟨#[]⟩ : ByteArray) true (⟨#[]⟩ : ByteArray) 0 none 0 0 [] none 0 0 [] none 0 0 [] none 0 0 [] none 0 0 []), HRX.out, HBX.out, HAX.out, HTX.out, HYX.out, HSZ.out⟩
          have z4 : w5.cell? ⟨b7, 4, none⟩ = some _ := HBA.out.cell 4
          have f4 : w5.frozen? ⟨b7, 4, none⟩ = false := HBA.out.frozen 4
          clear HRX HBA HTA HYA HBX HTX HYX HAX HLT hsz
          go_wp2
          go_meet
          case rel => exact ⟨false, by first | rfl | simp, HRK.out⟩
        · have HRX : Hid (rightRec (RecV.mk 8 0 0 (⟨#[]⟩ : ByteArray) false (⟨#[]⟩ : ByteArray) 5 none 0 0 [] none 0 0 [] none 0 0 [] none 0 0 [] none 0 0 []) = false) := by
            show _ = _
            rw [right_parts]
            simp [emp_size, emp_yes, emp_no1, emp_no2, key_k, key_x, reads_ab, nodes_15, HT.out]
          have hsz : w5.heap.size ≤ w5.heap.size := Nat.le_refl _
          have HBA : Hid (Blk w5 b7 #[.int .i64 8, .int .u64 0, .int .i64 0, .string (⟨#[]⟩ : ByteArray), .bool false, .string (⟨#[]⟩ : ByteArray), .int .u64 0, .slice none 0 0, .slice none 0 0, .slice none 0 0, .slice none 0 0, .slice none 0 0] 36) := HB8
          have HTA := HT5
          have HYA := HY5
          have HBX : Hid (Blk (w5.setCell ⟨b7, 6, none⟩ (.int .u64 5)) b7 #[.int .i64 8, .int .u64 0, .int .i64 0, .string (⟨#[]⟩ : ByteArray), .bool false, .string (⟨#[]⟩ : ByteArray), .int .u64 5, .slice none 0 0, .slice none 0 0, .slice none 0 0, .slice none 0 0, .slice none 0 0] 36) := by show Blk _ _ _ _; have := HBA.out.set 6 (.int .u64 5); simpa using this
          have HTX : Hid (Blk (w5.setCell ⟨b7, 6, none⟩ (.int .u64 5)) w.heap.size #[.int .u64 tn, .int .i64 ty] 24) := HTA.out.setOther _ _ (by have := HSZ.out; omega)
          have HYX : Hid (Below w.heap.size w (w5.setCell ⟨b7, 6, none⟩ (.int .u64 5))) := HYA.out.setCell (by have := HSZ.out; show _ ≤ b7; omega) _
          have HLT : Hid (b7 < w5.heap.size) := HB8.out.lt
          have HAX : Hid (RecV.At (w5.setCell ⟨b7, 6, none⟩ (.int .u64 5)) (RecV.mk 8 0 0 (⟨#[]⟩ : ByteArray) false (⟨#[]⟩ : ByteArray) 5 none 0 0 [] none 0 0 [] none 0 0 [] none 0 0 [] none 0 0 [])) := ⟨(show ByteArray.size (⟨#[]⟩ : ByteArray) ≤ maxLen by decide), (show ByteArray.size (⟨#[]⟩ : ByteArray) ≤ maxLen by decide), Rd.nil _, Rd.nil _, (fun s hs => nomatch hs), RowsN.nil _ _ _, (fun s hs => nomatch hs), RowsN.nil _ _ _, (fun s hs => nomatch hs), RowsN.nil _ _ _, (fun s hs => nomatch hs)⟩
          have HRK : Hid (RK w b7 tn ty (false) (w5.setCell ⟨b7, 6, none⟩ (.int .u64 5))) := ⟨(RecV.mk 8 0 0 (⟨#[]⟩ : ByteArray) false (⟨#[]⟩ : ByteArray) 5 none 0 0 [] none 0 0 [] none 0 0 [] none 0 0 [] none 0 0 []), HRX.out, HBX.out, HAX.out, HTX.out, HYX.out, HSZ.out⟩
          have z6 : w5.cell? ⟨b7, 6, none⟩ = some _ := HBA.out.cell 6
          have f6 : w5.frozen? ⟨b7, 6, none⟩ = false := HBA.out.frozen 6
          clear HRX HBA HTA HYA HBX HTX HYX HAX HLT hsz
          go_wp2
          go_meet
          case rel => exact ⟨false, by first | rfl | simp, HRK.out⟩
        · have HRX : Hid (rightRec (RecV.mk 8 0 0 (⟨#[]⟩ : ByteArray) false (⟨#[]⟩ : ByteArray) 0 (some ⟨w5.heap.size, 0, none⟩) 2 2 [1, 5] none 0 0 [] none 0 0 [] none 0 0 [] none 0 0 []) = false) := by
            show _ = _
            rw [right_parts]
            simp [emp_size, emp_yes, emp_no1, emp_no2, key_k, key_x, reads_ab, nodes_15, HT.out]
          have HBA : Hid (Blk (w5.alloc (.cells #[.int .i64 1, .int .i64 5] 3)) b7 #[.int .i64 8, .int .u64 0, .int .i64 0, .string (⟨#[]⟩ : ByteArray), .bool false, .string (⟨#[]⟩ : ByteArray), .int .u64 0, .slice none 0 0, .slice none 0 0, .slice none 0 0, .slice none 0 0, .slice none 0 0] 36) := HB8.out.alloc _
          have HTA : Hid (Blk (w5.alloc (.cells #[.int .i64 1, .int .i64 5] 3)) w.heap.size #[.int .u64 tn, .int .i64 ty] 24) := HT5.out.alloc _
          have HYA : Hid (Below w.heap.size w (w5.alloc (.cells #[.int .i64 1, .int .i64 5] 3))) := HY5.out.alloc HY5.out.size _
          have HBX : Hid (Blk ((w5.alloc (.cells #[.int .i64 1, .int .i64 5] 3)).setCell ⟨b7, 7, none⟩ (.slice (some ⟨w5.heap.size, 0, none⟩) 2 2)) b7 #[.int .i64 8, .int .u64 0, .int .i64 0, .string (⟨#[]⟩ : ByteArray), .bool false, .string (⟨#[]⟩ : ByteArray), .int .u64 0, .slice (some ⟨w5.heap.size, 0, none⟩) 2 2, .slice none 0 0, .slice none 0 0, .slice none 0 0, .slice none 0 0] 36) := by show Blk _ _ _ _; have := HBA.out.set 7 (.slice (some ⟨w5.heap.size, 0, none⟩) 2 2); simpa using this
          have HTX : Hid (Blk ((w5.alloc (.cells #[.int .i64 1, .int .i64 5] 3)).setCell ⟨b7, 7, none⟩ (.slice (some ⟨w5.heap.size, 0, none⟩) 2 2)) w.heap.size #[.int .u64 tn, .int .i64 ty] 24) := HTA.out.setOther _ _ (by have := HSZ.out; omega)
          have HYX : Hid (Below w.heap.size w ((w5.alloc (.cells #[.int .i64 1, .int .i64 5] 3)).setCell ⟨b7, 7, none⟩ (.slice (some ⟨w5.heap.size, 0, none⟩) 2 2))) := HYA.out.setCell (by have := HSZ.out; show _ ≤ b7; omega) _
          have HLT : Hid (b7 < w5.heap.size) := HB8.out.lt
          have HN : Hid (Rd ((w5.alloc (.cells #[.int .i64 1, .int .i64 5] 3)).setCell ⟨b7, 7, none⟩ (.slice (some ⟨w5.heap.size, 0, none⟩) 2 2)) (.slice (some ⟨w5.heap.size, 0, none⟩) 2 2) (iv [1, 5])) := (OwnV.kept (w := (w5.alloc (.cells #[.int .i64 1, .int .i64 5] 3))) (World.ownsRow_lit w5 #[.int .i64 1, .int .i64 5] 2 (Nat.le_refl _) (by simp [maxLen]) rfl : OwnV (w5.alloc (.cells #[.int .i64 1, .int .i64 5] 3)) w5.heap.size 3 (.slice (some ⟨w5.heap.size, 0, none⟩) 2 2) (iv [1, 5])) (fun g hg => Below.heap_setCell _ _ _ _ (by simp [Value.ownBlock] at hg; have := HLT.out; show g ≠ b7; omega))).rd
          have HAX : Hid (RecV.At ((w5.alloc (.cells #[.int .i64 1, .int .i64 5] 3)).setCell ⟨b7, 7, none⟩ (.slice (some ⟨w5.heap.size, 0, none⟩) 2 2)) (RecV.mk 8 0 0 (⟨#[]⟩ : ByteArray) false (⟨#[]⟩ : ByteArray) 0 (some ⟨w5.heap.size, 0, none⟩) 2 2 [1, 5] none 0 0 [] none 0 0 [] none 0 0 [] none 0 0 [])) := ⟨(show ByteArray.size (⟨#[]⟩ : ByteArray) ≤ maxLen by decide), (show ByteArray.size (⟨#[]⟩ : ByteArray) ≤ maxLen by decide), HN.out, Rd.nil _, (fun s hs => nomatch hs), RowsN.nil _ _ _, (fun s hs => nomatch hs), RowsN.nil _ _ _, (fun s hs => nomatch hs), RowsN.nil _ _ _, (fun s hs => nomatch hs)⟩
          have HRK : Hid (RK w b7 tn ty (false) ((w5.alloc (.cells #[.int .i64 1, .int .i64 5] 3)).setCell ⟨b7, 7, none⟩ (.slice (some ⟨w5.heap.size, 0, none⟩) 2 2))) := ⟨(RecV.mk 8 0 0 (⟨#[]⟩ : ByteArray) false (⟨#[]⟩ : ByteArray) 0 (some ⟨w5.heap.size, 0, none⟩) 2 2 [1, 5] none 0 0 [] none 0 0 [] none 0 0 [] none 0 0 []), HRX.out, HBX.out, HAX.out, HTX.out, HYX.out, HSZ.out⟩
          have z7 : (w5.alloc (.cells #[.int .i64 1, .int .i64 5] 3)).cell? ⟨b7, 7, none⟩ = some _ := HBA.out.cell 7
          have f7 : (w5.alloc (.cells #[.int .i64 1, .int .i64 5] 3)).frozen? ⟨b7, 7, none⟩ = false := HBA.out.frozen 7
          clear HRX HBA HTA HYA HBX HTX HYX HAX HLT HN
          go_wp2
          go_meet
          case rel => exact ⟨false, by first | rfl | simp, HRK.out⟩
        · have HRX : Hid (rightRec (RecV.mk 8 0 0 (⟨#[]⟩ : ByteArray) false (⟨#[]⟩ : ByteArray) 0 none 0 0 [] (some ⟨w5.heap.size, 0, none⟩) 2 2 [(⟨#[97]⟩ : ByteArray), (⟨#[98]⟩ : ByteArray)] none 0 0 [] none 0 0 [] none 0 0 []) = false) := by
            show _ = _
            rw [right_parts]
            simp [emp_size, emp_yes, emp_no1, emp_no2, key_k, key_x, reads_ab, nodes_15, HT.out]
          have HBA : Hid (Blk (w5.alloc (.cells #[.string (⟨#[97]⟩ : ByteArray), .string (⟨#[98]⟩ : ByteArray)] 9)) b7 #[.int .i64 8, .int .u64 0, .int .i64 0, .string (⟨#[]⟩ : ByteArray), .bool false, .string (⟨#[]⟩ : ByteArray), .int .u64 0, .slice none 0 0, .slice none 0 0, .slice none 0 0, .slice none 0 0, .slice none 0 0] 36) := HB8.out.alloc _
          have HTA : Hid (Blk (w5.alloc (.cells #[.string (⟨#[97]⟩ : ByteArray), .string (⟨#[98]⟩ : ByteArray)] 9)) w.heap.size #[.int .u64 tn, .int .i64 ty] 24) := HT5.out.alloc _
          have HYA : Hid (Below w.heap.size w (w5.alloc (.cells #[.string (⟨#[97]⟩ : ByteArray), .string (⟨#[98]⟩ : ByteArray)] 9))) := HY5.out.alloc HY5.out.size _
          have HBX : Hid (Blk ((w5.alloc (.cells #[.string (⟨#[97]⟩ : ByteArray), .string (⟨#[98]⟩ : ByteArray)] 9)).setCell ⟨b7, 8, none⟩ (.slice (some ⟨w5.heap.size, 0, none⟩) 2 2)) b7 #[.int .i64 8, .int .u64 0, .int .i64 0, .string (⟨#[]⟩ : ByteArray), .bool false, .string (⟨#[]⟩ : ByteArray), .int .u64 0, .slice none 0 0, .slice (some ⟨w5.heap.size, 0, none⟩) 2 2, .slice none 0 0, .slice none 0 0, .slice none 0 0] 36) := by show Blk _ _ _ _; have := HBA.out.set 8 (.slice (some ⟨w5.heap.size, 0, none⟩) 2 2); simpa using this
          have HTX : Hid (Blk ((w5.alloc (.cells #[.string (⟨#[97]⟩ : ByteArray), .string (⟨#[98]⟩ : ByteArray)] 9)).setCell ⟨b7, 8, none⟩ (.slice (some ⟨w5.heap.size, 0, none⟩) 2 2)) w.heap.size #[.int .u64 tn, .int .i64 ty] 24) := HTA.out.setOther _ _ (by have := HSZ.out; omega)
          have HYX : Hid (Below w.heap.size w ((w5.alloc (.cells #[.string (⟨#[97]⟩ : ByteArray), .string (⟨#[98]⟩ : ByteArray)] 9)).setCell ⟨b7, 8, none⟩ (.slice (some ⟨w5.heap.size, 0, none⟩) 2 2))) := HYA.out.setCell (by have := HSZ.out; show _ ≤ b7; omega) _
          have HLT : Hid (b7 < w5.heap.size) := HB8.out.lt
          have HN : Hid (Rd ((w5.alloc (.cells #[.string (⟨#[97]⟩ : ByteArray), .string (⟨#[98]⟩ : ByteArray)] 9)).setCell ⟨b7, 8, none⟩ (.slice (some ⟨w5.heap.size, 0, none⟩) 2 2)) (.slice (some ⟨w5.heap.size, 0, none⟩) 2 2) (sv [(⟨#[97]⟩ : ByteArray), (⟨#[98]⟩ : ByteArray)])) := (OwnV.kept (w := (w5.alloc (.cells #[.string (⟨#[97]⟩ : ByteArray), .string (⟨#[98]⟩ : ByteArray)] 9))) (World.ownsRow_lit w5 #[.string (⟨#[97]⟩ : ByteArray), .string (⟨#[98]⟩ : ByteArray)] 2 (Nat.le_refl _) (by simp [maxLen]) rfl : OwnV (w5.alloc (.cells #[.string (⟨#[97]⟩ : ByteArray), .string (⟨#[98]⟩ : ByteArray)] 9)) w5.heap.size 9 (.slice (some ⟨w5.heap.size, 0, none⟩) 2 2) (sv [(⟨#[97]⟩ : ByteArray), (⟨#[98]⟩ : ByteArray)])) (fun g hg => Below.heap_setCell _ _ _ _ (by simp [Value.ownBlock] at hg; have := HLT.out; show g ≠ b7; omega))).rd
          have HAX : Hid (RecV.At ((w5.alloc (.cells #[.string (⟨#[97]⟩ : ByteArray), .string (⟨#[98]⟩ : ByteArray)] 9)).setCell ⟨b7, 8, none⟩ (.slice (some ⟨w5.heap.size, 0, none⟩) 2 2)) (RecV.mk 8 0 0 (⟨#[]⟩ : ByteArray) false (⟨#[]⟩ : ByteArray) 0 none 0 0 [] (some ⟨w5.heap.size, 0, none⟩) 2 2 [(⟨#[97]⟩ : ByteArray), (⟨#[98]⟩ : ByteArray)] none 0 0 [] none 0 0 [] none 0 0 [])) := ⟨(show ByteArray.size (⟨#[]⟩ : ByteArray) ≤ maxLen by decide), (show ByteArray.size (⟨#[]⟩ : ByteArray) ≤ maxLen by decide), Rd.nil _, HN.out, (fun s hs => by simp at hs; rcases hs with rfl | rfl <;> decide), RowsN.nil _ _ _, (fun s hs => nomatch hs), RowsN.nil _ _ _, (fun s hs => nomatch hs), RowsN.nil _ _ _, (fun s hs => nomatch hs)⟩
          have HRK : Hid (RK w b7 tn ty (false) ((w5.alloc (.cells #[.string (⟨#[97]⟩ : ByteArray), .string (⟨#[98]⟩ : ByteArray)] 9)).setCell ⟨b7, 8, none⟩ (.slice (some ⟨w5.heap.size, 0, none⟩) 2 2))) := ⟨(RecV.mk 8 0 0 (⟨#[]⟩ : ByteArray) false (⟨#[]⟩ : ByteArray) 0 none 0 0 [] (some ⟨w5.heap.size, 0, none⟩) 2 2 [(⟨#[97]⟩ : ByteArray), (⟨#[98]⟩ : ByteArray)] none 0 0 [] none 0 0 [] none 0 0 []), HRX.out, HBX.out, HAX.out, HTX.out, HYX.out, HSZ.out⟩
          have z8 : (w5.alloc (.cells #[.string (⟨#[97]⟩ : ByteArray), .string (⟨#[98]⟩ : ByteArray)] 9)).cell? ⟨b7, 8, none⟩ = some _ := HBA.out.cell 8
          have f8 : (w5.alloc (.cells #[.string (⟨#[97]⟩ : ByteArray), .string (⟨#[98]⟩ : ByteArray)] 9)).frozen? ⟨b7, 8, none⟩ = false := HBA.out.frozen 8
          clear HRX HBA HTA HYA HBX HTX HYX HAX HLT HN
          go_wp2
          go_meet
          case rel => exact ⟨false, by first | rfl | simp, HRK.out⟩
        · have HRX : Hid (rightRec (RecV.mk 8 0 0 (⟨#[]⟩ : ByteArray) false (⟨#[]⟩ : ByteArray) 0 none 0 0 [] none 0 0 [] none 0 0 [] (some ⟨w5.heap.size + 1, 0, none⟩) 1 1 [(OpenV.mk tn ty 0 0 0 false (some ⟨w5.heap.size, 0, none⟩) 1 1 [(⟨#[122]⟩ : ByteArray)])] none 0 0 []) = true) := by
            show _ = _
            rw [right_parts]
            simp [emp_size, emp_yes, emp_no1, emp_no2, key_k, key_x, reads_ab, nodes_15, HT.out, fit_one openOk openLt noOpen 200 _ (by omega) (open_ok HT.out _ _ _)]
          have HBA : Hid (Blk ((w5.alloc (.cells #[.string (⟨#[122]⟩ : ByteArray)] 9)).alloc (.cells #[.int .u64 tn, .int .i64 ty, .int .u64 0, .int .u64 0, .int .i64 0, .bool false, .slice (some ⟨w5.heap.size, 0, none⟩) 1 1] 46)) b7 #[.int .i64 8, .int .u64 0, .int .i64 0, .string (⟨#[]⟩ : ByteArray), .bool false, .string (⟨#[]⟩ : ByteArray), .int .u64 0, .slice none 0 0, .slice none 0 0, .slice none 0 0, .slice none 0 0, .slice none 0 0] 36) := (HB8.out.alloc _).alloc _
          have HTA : Hid (Blk ((w5.alloc (.cells #[.string (⟨#[122]⟩ : ByteArray)] 9)).alloc (.cells #[.int .u64 tn, .int .i64 ty, .int .u64 0, .int .u64 0, .int .i64 0, .bool false, .slice (some ⟨w5.heap.size, 0, none⟩) 1 1] 46)) w.heap.size #[.int .u64 tn, .int .i64 ty] 24) := (HT5.out.alloc _).alloc _
          have HYA : Hid (Below w.heap.size w ((w5.alloc (.cells #[.string (⟨#[122]⟩ : ByteArray)] 9)).alloc (.cells #[.int .u64 tn, .int .i64 ty, .int .u64 0, .int .u64 0, .int .i64 0, .bool false, .slice (some ⟨w5.heap.size, 0, none⟩) 1 1] 46))) := (HY5.out.alloc HY5.out.size _).alloc (by have := HY5.out.size; simp; omega) _
          have HBX : Hid (Blk (((w5.alloc (.cells #[.string (⟨#[122]⟩ : ByteArray)] 9)).alloc (.cells #[.int .u64 tn, .int .i64 ty, .int .u64 0, .int .u64 0, .int .i64 0, .bool false, .slice (some ⟨w5.heap.size, 0, none⟩) 1 1] 46)).setCell ⟨b7, 10, none⟩ (.slice (some ⟨w5.heap.size + 1, 0, none⟩) 1 1)) b7 #[.int .i64 8, .int .u64 0, .int .i64 0, .string (⟨#[]⟩ : ByteArray), .bool false, .string (⟨#[]⟩ : ByteArray), .int .u64 0, .slice none 0 0, .slice none 0 0, .slice none 0 0, .slice (some ⟨w5.heap.size + 1, 0, none⟩) 1 1, .slice none 0 0] 36) := by show Blk _ _ _ _; have := HBA.out.set 10 (.slice (some ⟨w5.heap.size + 1, 0, none⟩) 1 1); simpa using this
          have HTX : Hid (Blk (((w5.alloc (.cells #[.string (⟨#[122]⟩ : ByteArray)] 9)).alloc (.cells #[.int .u64 tn, .int .i64 ty, .int .u64 0, .int .u64 0, .int .i64 0, .bool false, .slice (some ⟨w5.heap.size, 0, none⟩) 1 1] 46)).setCell ⟨b7, 10, none⟩ (.slice (some ⟨w5.heap.size + 1, 0, none⟩) 1 1)) w.heap.size #[.int .u64 tn, .int .i64 ty] 24) := HTA.out.setOther _ _ (by have := HSZ.out; omega)
          have HYX : Hid (Below w.heap.size w (((w5.alloc (.cells #[.string (⟨#[122]⟩ : ByteArray)] 9)).alloc (.cells #[.int .u64 tn, .int .i64 ty, .int .u64 0, .int .u64 0, .int .i64 0, .bool false, .slice (some ⟨w5.heap.size, 0, none⟩) 1 1] 46)).setCell ⟨b7, 10, none⟩ (.slice (some ⟨w5.heap.size + 1, 0, none⟩) 1 1))) := HYA.out.setCell (by have := HSZ.out; show _ ≤ b7; omega) _
          have HLT : Hid (b7 < w5.heap.size) := HB8.out.lt
          have HN0 : Hid (OwnV (w5.alloc (.cells #[.string (⟨#[122]⟩ : ByteArray)] 9)) w5.heap.size 9 (.slice (some ⟨w5.heap.size, 0, none⟩) 1 1) (sv [(⟨#[122]⟩ : ByteArray)])) := World.ownsRow_lit w5 #[.string (⟨#[122]⟩ : ByteArray)] 1 (Nat.le_refl _) (by simp [maxLen]) rfl
          have HN : Hid (Rd (((w5.alloc (.cells #[.string (⟨#[122]⟩ : ByteArray)] 9)).alloc (.cells #[.int .u64 tn, .int .i64 ty, .int .u64 0, .int .u64 0, .int .i64 0, .bool false, .slice (some ⟨w5.heap.size, 0, none⟩) 1 1] 46)).setCell ⟨b7, 10, none⟩ (.slice (some ⟨w5.heap.size + 1, 0, none⟩) 1 1)) (.slice (some ⟨w5.heap.size, 0, none⟩) 1 1) (sv [(⟨#[122]⟩ : ByteArray)])) := (OwnV.kept (HN0.out.below (below_allocR _)) (fun g hg => Below.heap_setCell _ _ _ _ (by simp [Value.ownBlock] at hg; have := HLT.out; show g ≠ b7; omega))).rd
          have HK : Hid (Blk ((w5.alloc (.cells #[.string (⟨#[122]⟩ : ByteArray)] 9)).alloc (.cells #[.int .u64 tn, .int .i64 ty, .int .u64 0, .int .u64 0, .int .i64 0, .bool false, .slice (some ⟨w5.heap.size, 0, none⟩) 1 1] 46)) (w5.heap.size + 1) #[.int .u64 tn, .int .i64 ty, .int .u64 0, .int .u64 0, .int .i64 0, .bool false, .slice (some ⟨w5.heap.size, 0, none⟩) 1 1] 46) := blk_two _ _ _ _ _
          have HK2 : Hid (Blk (((w5.alloc (.cells #[.string (⟨#[122]⟩ : ByteArray)] 9)).alloc (.cells #[.int .u64 tn, .int .i64 ty, .int .u64 0, .int .u64 0, .int .i64 0, .bool false, .slice (some ⟨w5.heap.size, 0, none⟩) 1 1] 46)).setCell ⟨b7, 10, none⟩ (.slice (some ⟨w5.heap.size + 1, 0, none⟩) 1 1)) (w5.heap.size + 1) #[.int .u64 tn, .int .i64 ty, .int .u64 0, .int .u64 0, .int .i64 0, .bool false, .slice (some ⟨w5.heap.size, 0, none⟩) 1 1] 46) := HK.out.setOther _ _ (by have := HLT.out; show w5.heap.size + 1 ≠ b7; omega)
          have HAX : Hid (RecV.At (((w5.alloc (.cells #[.string (⟨#[122]⟩ : ByteArray)] 9)).alloc (.cells #[.int .u64 tn, .int .i64 ty, .int .u64 0, .int .u64 0, .int .i64 0, .bool false, .slice (some ⟨w5.heap.size, 0, none⟩) 1 1] 46)).setCell ⟨b7, 10, none⟩ (.slice (some ⟨w5.heap.size + 1, 0, none⟩) 1 1)) (RecV.mk 8 0 0 (⟨#[]⟩ : ByteArray) false (⟨#[]⟩ : ByteArray) 0 none 0 0 [] none 0 0 [] none 0 0 [] (some ⟨w5.heap.size + 1, 0, none⟩) 1 1 [(OpenV.mk tn ty 0 0 0 false (some ⟨w5.heap.size, 0, none⟩) 1 1 [(⟨#[122]⟩ : ByteArray)])] none 0 0 [])) := ⟨(show ByteArray.size (⟨#[]⟩ : ByteArray) ≤ maxLen by decide), (show ByteArray.size (⟨#[]⟩ : ByteArray) ≤ maxLen by decide), Rd.nil _, Rd.nil _, (fun s hs => nomatch hs), RowsN.nil _ _ _, (fun s hs => nomatch hs), rowsN_one (x := (OpenV.mk tn ty 0 0 0 false (some ⟨w5.heap.size, 0, none⟩) 1 1 [(⟨#[122]⟩ : ByteArray)])) HK2.out, (fun s hs => by rw [List.mem_singleton] at hs; subst hs; exact ⟨HN.out, fun s hs => by rw [List.mem_singleton] at hs; subst hs; decide⟩), RowsN.nil _ _ _, (fun s hs => nomatch hs)⟩
          have HRK : Hid (RK w b7 tn ty (true) (((w5.alloc (.cells #[.string (⟨#[122]⟩ : ByteArray)] 9)).alloc (.cells #[.int .u64 tn, .int .i64 ty, .int .u64 0, .int .u64 0, .int .i64 0, .bool false, .slice (some ⟨w5.heap.size, 0, none⟩) 1 1] 46)).setCell ⟨b7, 10, none⟩ (.slice (some ⟨w5.heap.size + 1, 0, none⟩) 1 1))) := ⟨(RecV.mk 8 0 0 (⟨#[]⟩ : ByteArray) false (⟨#[]⟩ : ByteArray) 0 none 0 0 [] none 0 0 [] none 0 0 [] (some ⟨w5.heap.size + 1, 0, none⟩) 1 1 [(OpenV.mk tn ty 0 0 0 false (some ⟨w5.heap.size, 0, none⟩) 1 1 [(⟨#[122]⟩ : ByteArray)])] none 0 0 []), HRX.out, HBX.out, HAX.out, HTX.out, HYX.out, HSZ.out⟩
          have z10 : ((w5.alloc (.cells #[.string (⟨#[122]⟩ : ByteArray)] 9)).alloc (.cells #[.int .u64 tn, .int .i64 ty, .int .u64 0, .int .u64 0, .int .i64 0, .bool false, .slice (some ⟨w5.heap.size, 0, none⟩) 1 1] 46)).cell? ⟨b7, 10, none⟩ = some _ := HBA.out.cell 10
          have f10 : ((w5.alloc (.cells #[.string (⟨#[122]⟩ : ByteArray)] 9)).alloc (.cells #[.int .u64 tn, .int .i64 ty, .int .u64 0, .int .u64 0, .int .i64 0, .bool false, .slice (some ⟨w5.heap.size, 0, none⟩) 1 1] 46)).frozen? ⟨b7, 10, none⟩ = false := HBA.out.frozen 10
          clear HRX HBA HTA HYA HBX HTX HYX HAX HLT HN HN0 HK HK2
          have t0 : w5.cell? ⟨w.heap.size, 0, none⟩ = some (.int .u64 tn) := HT5.out.cell 0
          have t1 : w5.cell? ⟨w.heap.size, 1, none⟩ = some (.int .i64 ty) := HT5.out.cell 1
          go_wp2
          go_meet
          case rel => exact ⟨true, by first | rfl | simp, HRK.out⟩
        · have HRX : Hid (rightRec (RecV.mk 8 0 0 (⟨#[]⟩ : ByteArray) false (⟨#[]⟩ : ByteArray) 0 none 0 0 [] none 0 0 [] none 0 0 [] none 0 0 [] (some ⟨w5.heap.size, 0, none⟩) 1 1 [(DoneV.mk tn ty none 0 0 [])]) = true) := by
            show _ = _
            rw [right_parts]
            simp [emp_size, emp_yes, emp_no1, emp_no2, key_k, key_x, reads_ab, nodes_15, HT.out, fit_one doneOk doneLt noDone 200 _ (by omega) (done_ok HT.out _ _ _)]
          have HBA : Hid (Blk (w5.alloc (.cells #[.int .u64 tn, .int .i64 ty, .slice none 0 0] 48)) b7 #[.int .i64 8, .int .u64 0, .int .i64 0, .string (⟨#[]⟩ : ByteArray), .bool false, .string (⟨#[]⟩ : ByteArray), .int .u64 0, .slice none 0 0, .slice none 0 0, .slice none 0 0, .slice none 0 0, .slice none 0 0] 36) := HB8.out.alloc _
          have HTA : Hid (Blk (w5.alloc (.cells #[.int .u64 tn, .int .i64 ty, .slice none 0 0] 48)) w.heap.size #[.int .u64 tn, .int .i64 ty] 24) := HT5.out.alloc _
          have HYA : Hid (Below w.heap.size w (w5.alloc (.cells #[.int .u64 tn, .int .i64 ty, .slice none 0 0] 48))) := HY5.out.alloc HY5.out.size _
          have HBX : Hid (Blk ((w5.alloc (.cells #[.int .u64 tn, .int .i64 ty, .slice none 0 0] 48)).setCell ⟨b7, 11, none⟩ (.slice (some ⟨w5.heap.size, 0, none⟩) 1 1)) b7 #[.int .i64 8, .int .u64 0, .int .i64 0, .string (⟨#[]⟩ : ByteArray), .bool false, .string (⟨#[]⟩ : ByteArray), .int .u64 0, .slice none 0 0, .slice none 0 0, .slice none 0 0, .slice none 0 0, .slice (some ⟨w5.heap.size, 0, none⟩) 1 1] 36) := by show Blk _ _ _ _; have := HBA.out.set 11 (.slice (some ⟨w5.heap.size, 0, none⟩) 1 1); simpa using this
          have HTX : Hid (Blk ((w5.alloc (.cells #[.int .u64 tn, .int .i64 ty, .slice none 0 0] 48)).setCell ⟨b7, 11, none⟩ (.slice (some ⟨w5.heap.size, 0, none⟩) 1 1)) w.heap.size #[.int .u64 tn, .int .i64 ty] 24) := HTA.out.setOther _ _ (by have := HSZ.out; omega)
          have HYX : Hid (Below w.heap.size w ((w5.alloc (.cells #[.int .u64 tn, .int .i64 ty, .slice none 0 0] 48)).setCell ⟨b7, 11, none⟩ (.slice (some ⟨w5.heap.size, 0, none⟩) 1 1))) := HYA.out.setCell (by have := HSZ.out; show _ ≤ b7; omega) _
          have HLT : Hid (b7 < w5.heap.size) := HB8.out.lt
          have HK : Hid (Blk (w5.alloc (.cells #[.int .u64 tn, .int .i64 ty, .slice none 0 0] 48)) w5.heap.size #[.int .u64 tn, .int .i64 ty, .slice none 0 0] 48) := Blk.new _ _ _
          have HK2 : Hid (Blk ((w5.alloc (.cells #[.int .u64 tn, .int .i64 ty, .slice none 0 0] 48)).setCell ⟨b7, 11, none⟩ (.slice (some ⟨w5.heap.size, 0, none⟩) 1 1)) w5.heap.size #[.int .u64 tn, .int .i64 ty, .slice none 0 0] 48) := HK.out.setOther _ _ (by have := HLT.out; show w5.heap.size ≠ b7; omega)
          have HAX : Hid (RecV.At ((w5.alloc (.cells #[.int .u64 tn, .int .i64 ty, .slice none 0 0] 48)).setCell ⟨b7, 11, none⟩ (.slice (some ⟨w5.heap.size, 0, none⟩) 1 1)) (RecV.mk 8 0 0 (⟨#[]⟩ : ByteArray) false (⟨#[]⟩ : ByteArray) 0 none 0 0 [] none 0 0 [] none 0 0 [] none 0 0 [] (some ⟨w5.heap.size, 0, none⟩) 1 1 [(DoneV.mk tn ty none 0 0 [])])) := ⟨(show ByteArray.size (⟨#[]⟩ : ByteArray) ≤ maxLen by decide), (show ByteArray.size (⟨#[]⟩ : ByteArray) ≤ maxLen by decide), Rd.nil _, Rd.nil _, (fun s hs => nomatch hs), RowsN.nil _ _ _, (fun s hs => nomatch hs), RowsN.nil _ _ _, (fun s hs => nomatch hs), rowsN_one (x := (DoneV.mk tn ty none 0 0 [])) HK2.out, (fun s hs => by rw [List.mem_singleton] at hs; subst hs; exact ⟨Rd.nil _⟩)⟩
          have HRK : Hid (RK w b7 tn ty (true) ((w5.alloc (.cells #[.int .u64 tn, .int .i64 ty, .slice none 0 0] 48)).setCell ⟨b7, 11, none⟩ (.slice (some ⟨w5.heap.size, 0, none⟩) 1 1))) := ⟨(RecV.mk 8 0 0 (⟨#[]⟩ : ByteArray) false (⟨#[]⟩ : ByteArray) 0 none 0 0 [] none 0 0 [] none 0 0 [] none 0 0 [] (some ⟨w5.heap.size, 0, none⟩) 1 1 [(DoneV.mk tn ty none 0 0 [])]), HRX.out, HBX.out, HAX.out, HTX.out, HYX.out, HSZ.out⟩
          have z11 : (w5.alloc (.cells #[.int .u64 tn, .int .i64 ty, .slice none 0 0] 48)).cell? ⟨b7, 11, none⟩ = some _ := HBA.out.cell 11
          have f11 : (w5.alloc (.cells #[.int .u64 tn, .int .i64 ty, .slice none 0 0] 48)).frozen? ⟨b7, 11, none⟩ = false := HBA.out.frozen 11
          clear HRX HBA HTA HYA HBX HTX HYX HAX HLT HK HK2
          have t0 : w5.cell? ⟨w.heap.size, 0, none⟩ = some (.int .u64 tn) := HT5.out.cell 0
          have t1 : w5.cell? ⟨w.heap.size, 1, none⟩ = some (.int .i64 ty) := HT5.out.cell 1
          go_wp2
          go_meet
          case rel => exact ⟨true, by first | rfl | simp, HRK.out⟩
        · have HRX : Hid (rightRec (RecV.mk 8 0 0 (⟨#[]⟩ : ByteArray) false (⟨#[120]⟩ : ByteArray) 0 none 0 0 [] none 0 0 [] none 0 0 [] none 0 0 [] none 0 0 []) = false) := by
            show _ = _
            rw [right_parts]
            simp [emp_size, emp_yes, emp_no1, emp_no2, key_k, key_x, reads_ab, nodes_15, HT.out]
          have hsz : w5.heap.size ≤ w5.heap.size := Nat.le_refl _
          have HBA : Hid (Blk w5 b7 #[.int .i64 8, .int .u64 0, .int .i64 0, .string (⟨#[]⟩ : ByteArray), .bool false, .string (⟨#[]⟩ : ByteArray), .int .u64 0, .slice none 0 0, .slice none 0 0, .slice none 0 0, .slice none 0 0, .slice none 0 0] 36) := HB8
          have HTA := HT5
          have HYA := HY5
          have HBX : Hid (Blk (w5.setCell ⟨b7, 5, none⟩ (.string (⟨#[120]⟩ : ByteArray))) b7 #[.int .i64 8, .int .u64 0, .int .i64 0, .string (⟨#[]⟩ : ByteArray), .bool false, .string (⟨#[120]⟩ : ByteArray), .int .u64 0, .slice none 0 0, .slice none 0 0, .slice none 0 0, .slice none 0 0, .slice none 0 0] 36) := by show Blk _ _ _ _; have := HBA.out.set 5 (.string (⟨#[120]⟩ : ByteArray)); simpa using this
          have HTX : Hid (Blk (w5.setCell ⟨b7, 5, none⟩ (.string (⟨#[120]⟩ : ByteArray))) w.heap.size #[.int .u64 tn, .int .i64 ty] 24) := HTA.out.setOther _ _ (by have := HSZ.out; omega)
          have HYX : Hid (Below w.heap.size w (w5.setCell ⟨b7, 5, none⟩ (.string (⟨#[120]⟩ : ByteArray)))) := HYA.out.setCell (by have := HSZ.out; show _ ≤ b7; omega) _
          have HLT : Hid (b7 < w5.heap.size) := HB8.out.lt
          have HAX : Hid (RecV.At (w5.setCell ⟨b7, 5, none⟩ (.string (⟨#[120]⟩ : ByteArray))) (RecV.mk 8 0 0 (⟨#[]⟩ : ByteArray) false (⟨#[120]⟩ : ByteArray) 0 none 0 0 [] none 0 0 [] none 0 0 [] none 0 0 [] none 0 0 [])) := ⟨(show ByteArray.size (⟨#[]⟩ : ByteArray) ≤ maxLen by decide), (show ByteArray.size (⟨#[120]⟩ : ByteArray) ≤ maxLen by decide), Rd.nil _, Rd.nil _, (fun s hs => nomatch hs), RowsN.nil _ _ _, (fun s hs => nomatch hs), RowsN.nil _ _ _, (fun s hs => nomatch hs), RowsN.nil _ _ _, (fun s hs => nomatch hs)⟩
          have HRK : Hid (RK w b7 tn ty (false) (w5.setCell ⟨b7, 5, none⟩ (.string (⟨#[120]⟩ : ByteArray)))) := ⟨(RecV.mk 8 0 0 (⟨#[]⟩ : ByteArray) false (⟨#[120]⟩ : ByteArray) 0 none 0 0 [] none 0 0 [] none 0 0 [] none 0 0 [] none 0 0 []), HRX.out, HBX.out, HAX.out, HTX.out, HYX.out, HSZ.out⟩
          have z5 : w5.cell? ⟨b7, 5, none⟩ = some _ := HBA.out.cell 5
          have f5 : w5.frozen? ⟨b7, 5, none⟩ = false := HBA.out.frozen 5
          clear HRX HBA HTA HYA HBX HTX HYX HAX HLT hsz
          go_wp2
          go_meet
          case rel => exact ⟨false, by first | rfl | simp, HRK.out⟩
      case rest =>
      obtain ⟨b, rfl, hrk⟩ := hcut
      rename World => w6
      obtain ⟨x, hx, hb, ha, ht, hy, hlt⟩ := hrk
      have HXR : Hid (rightRec x = b) := hx
      have HB6 : Hid (Blk w6 b7 #[.int .i64 x.kind, .int .u64 x.num, .int .i64 x.node, .string x.key, .bool x.was, .string x.old, .int .u64 x.prev, .slice x.na x.nn x.nc, .slice x.ra x.rn x.rc, .slice x.ga x.gn x.gc, .slice x.oa x.om x.oc, .slice x.da x.dn x.dc] 36) := hb
      have HA6 : Hid (x.At w6) := ha
      have HY6 : Hid (Below w.heap.size w w6) := hy
      have t0 : w6.cell? ⟨w.heap.size, 0, none⟩ = some (.int .u64 tn) := Blk.cell ht 0
      have t1 : w6.cell? ⟨w.heap.size, 1, none⟩ = some (.int .i64 ty) := Blk.cell ht 1
      clear hx hb ha ht hy hlt HB8 HT5 HY5
      have HX7 : Hid (Below w6.heap.size w6 ((w6.alloc (.cells #[.string (⟨#[122]⟩ : ByteArray)] 9)).alloc (.cells #[.int .u64 tn, .int .i64 ty, .int .u64 0, .int .u64 0, .int .i64 0, .bool false, .slice (some ⟨w6.heap.size, 0, none⟩) 1 1] 46))) := (below_allocR _).trans ((below_allocR _).mono (by simp))
      have HN7 : Hid (Rd ((w6.alloc (.cells #[.string (⟨#[122]⟩ : ByteArray)] 9)).alloc (.cells #[.int .u64 tn, .int .i64 ty, .int .u64 0, .int .u64 0, .int .i64 0, .bool false, .slice (some ⟨w6.heap.size, 0, none⟩) 1 1] 46)) (.slice (some ⟨w6.heap.size, 0, none⟩) 1 1) (sv [(⟨#[122]⟩ : ByteArray)])) := (OwnV.below (World.ownsRow_lit w6 #[.string (⟨#[122]⟩ : ByteArray)] 1 (Nat.le_refl _) (by simp [maxLen]) rfl : OwnV (w6.alloc (.cells #[.string (⟨#[122]⟩ : ByteArray)] 9)) w6.heap.size 9 (.slice (some ⟨w6.heap.size, 0, none⟩) 1 1) (sv [(⟨#[122]⟩ : ByteArray)])) (below_allocR _)).rd
      have HO7 : Hid (Blk ((w6.alloc (.cells #[.string (⟨#[122]⟩ : ByteArray)] 9)).alloc (.cells #[.int .u64 tn, .int .i64 ty, .int .u64 0, .int .u64 0, .int .i64 0, .bool false, .slice (some ⟨w6.heap.size, 0, none⟩) 1 1] 46)) (w6.heap.size + 1) #[.int .u64 tn, .int .i64 ty, .int .u64 0, .int .u64 0, .int .i64 0, .bool false, .slice (some ⟨w6.heap.size, 0, none⟩) 1 1] 46) := blk_two _ _ _ _ _
      have HB7 : Hid (Blk ((w6.alloc (.cells #[.string (⟨#[122]⟩ : ByteArray)] 9)).alloc (.cells #[.int .u64 tn, .int .i64 ty, .int .u64 0, .int .u64 0, .int .i64 0, .bool false, .slice (some ⟨w6.heap.size, 0, none⟩) 1 1] 46)) b7 #[.int .i64 x.kind, .int .u64 x.num, .int .i64 x.node, .string x.key, .bool x.was, .string x.old, .int .u64 x.prev, .slice x.na x.nn x.nc, .slice x.ra x.rn x.rc, .slice x.ga x.gn x.gc, .slice x.oa x.om x.oc, .slice x.da x.dn x.dc] 36) := Blk.of HB6.out (HX7.out.block _ HB6.out.lt)
      have HA7 : Hid (x.At ((w6.alloc (.cells #[.string (⟨#[122]⟩ : ByteArray)] 9)).alloc (.cells #[.int .u64 tn, .int .i64 ty, .int .u64 0, .int .u64 0, .int .i64 0, .bool false, .slice (some ⟨w6.heap.size, 0, none⟩) 1 1] 46))) := HA6.out.below HX7.out
      have HY7 : Hid (Below w.heap.size w ((w6.alloc (.cells #[.string (⟨#[122]⟩ : ByteArray)] 9)).alloc (.cells #[.int .u64 tn, .int .i64 ty, .int .u64 0, .int .u64 0, .int .i64 0, .bool false, .slice (some ⟨w6.heap.size, 0, none⟩) 1 1] 46))) := ext_trans HY6.out HX7.out
      have HL7 : Hid (b7 < w6.heap.size) := HB6.out.lt
      go_upto_region 39 with fail
      generalize ((w6.alloc (.cells #[.string (⟨#[122]⟩ : ByteArray)] 9)).alloc (.cells #[.int .u64 tn, .int .i64 ty, .int .u64 0, .int .u64 0, .int .i64 0, .bool false, .slice (some ⟨w6.heap.size, 0, none⟩) 1 1] 46)) = w7 at *
      clear t0 t1 HB6 HA6 HY6 HX7
      obtain ⟨r7, hr7⟩ : ∃ r, w6.heap.size = r := ⟨_, rfl⟩
      rw [hr7] at HN7 HO7 HL7 ⊢
      clear hr7
      have HCL : Hid (∀ W, Below w7.heap.size w7 W → Calls Try.prog 19 #[.agg #[.int .u64 tn, .int .i64 ty, .int .u64 0, .int .u64 0, .int .i64 0, .bool false, .slice (some ⟨r7, 0, none⟩) 1 1]] W fun e w' => ∃ a n c, e = .returned (.agg #[.int .u64 tn, .int .i64 ty, .int .u64 0, .int .u64 0, .int .i64 0, .bool false, .slice a n c]) ∧ OwnV w' (W.heap.size + 2) 9 (.slice a n c) (sv [(⟨#[122]⟩ : ByteArray)]) ∧ Below W.heap.size W w') := fun W hb => openClone_any (OpenV.mk tn ty 0 0 0 false (some ⟨r7, 0, none⟩) 1 1 [(⟨#[122]⟩ : ByteArray)]) W ⟨HN7.out.below hb, fun s hs => by rw [List.mem_singleton] at hs; subst hs; decide⟩ (by simp)
      have o0 : w7.cell? ⟨r7 + 1, 0, none⟩ = some _ := HO7.out.cell 0
      have o1 : w7.cell? ⟨r7 + 1, 1, none⟩ = some _ := HO7.out.cell 1
      have o2 : w7.cell? ⟨r7 + 1, 2, none⟩ = some _ := HO7.out.cell 2
      have o3 : w7.cell? ⟨r7 + 1, 3, none⟩ = some _ := HO7.out.cell 3
      have o4 : w7.cell? ⟨r7 + 1, 4, none⟩ = some _ := HO7.out.cell 4
      have o5 : w7.cell? ⟨r7 + 1, 5, none⟩ = some _ := HO7.out.cell 5
      have o6 : w7.cell? ⟨r7 + 1, 6, none⟩ = some _ := HO7.out.cell 6
      go_wp2_with fail
      refine (HCL.out _ (Below.refl _ _)).mono ?_
      rintro e w8 ⟨a8, n8, c8, rfl, ho, y⟩
      clear o0 o1 o2 o3 o4 o5 o6
      obtain ⟨g, cap, hv, hg, hcs, cur8, hbk⟩ := own_set1 (i := 0) ho (by simp) (⟨#[121]⟩ : ByteArray)
      obtain ⟨h1, h2, h3⟩ : a8 = some ⟨g, 0, none⟩ ∧ n8 = 1 ∧ c8 = cap := by cases hv; exact ⟨rfl, rfl, rfl⟩
      subst h1 h2 h3
      have HGB : Hid (w7.heap.size ≤ g) := by show _ ≤ _; omega
      obtain ⟨u8, hu8⟩ := Option.isSome_iff_exists.1 hcs
      have HX8 : Hid (Below w7.heap.size w7 w8) := y
      clear ho y hcs hg hv
      have HX9 : Hid (Below w7.heap.size w7 ((w8.alloc (.cells #[.int .u64 tn, .int .i64 ty, .int .u64 0, .int .u64 0, .int .i64 0, .bool false, .slice (some ⟨g, 0, none⟩) 1 c8] 46)).setCell ⟨g, 0, none⟩ (.string (⟨#[121]⟩ : ByteArray)))) := (HX8.out.alloc HX8.out.size _).setCell (by show _ ≤ g; exact HGB.out) _
      have e1 : (w8.alloc (.cells #[.int .u64 tn, .int .i64 ty, .int .u64 0, .int .u64 0, .int .i64 0, .bool false, .slice (some ⟨g, 0, none⟩) 1 c8] 46)).cell? ⟨w8.heap.size, 6, none⟩ = some (.slice (some ⟨g, 0, none⟩) 1 c8) := (Blk.new w8 #[.int .u64 tn, .int .i64 ty, .int .u64 0, .int .u64 0, .int .i64 0, .bool false, .slice (some ⟨g, 0, none⟩) 1 c8] 46).cell 6
      have e2 : (w8.alloc (.cells #[.int .u64 tn, .int .i64 ty, .int .u64 0, .int .u64 0, .int .i64 0, .bool false, .slice (some ⟨g, 0, none⟩) 1 c8] 46)).cell? ⟨g, 0, none⟩ = some u8 := (Below.cell (below_allocR (W := w8) _) (World.block_lt_of_cell? w8 _ hu8)).trans hu8
      have e3 : (w8.alloc (.cells #[.int .u64 tn, .int .i64 ty, .int .u64 0, .int .u64 0, .int .i64 0, .bool false, .slice (some ⟨g, 0, none⟩) 1 c8] 46)).frozen? ⟨g, 0, none⟩ = false := (hbk.alloc _).frozen 0
      clear hu8 hbk
      go_upto_region 41 with fail
      generalize ((w8.alloc (.cells #[.int .u64 tn, .int .i64 ty, .int .u64 0, .int .u64 0, .int .i64 0, .bool false, .slice (some ⟨g, 0, none⟩) 1 c8] 46)).setCell ⟨g, 0, none⟩ (.string (⟨#[121]⟩ : ByteArray))) = w9 at *
      clear e1 e2 e3 HX8 HGB
      have HB9 : Hid (Blk w9 b7 #[.int .i64 x.kind, .int .u64 x.num, .int .i64 x.node, .string x.key, .bool x.was, .string x.old, .int .u64 x.prev, .slice x.na x.nn x.nc, .slice x.ra x.rn x.rc, .slice x.ga x.gn x.gc, .slice x.oa x.om x.oc, .slice x.da x.dn x.dc] 36) := Blk.of HB7.out (HX9.out.block _ HB7.out.lt)
      have HO9 : Hid (Blk w9 (r7 + 1) #[.int .u64 tn, .int .i64 ty, .int .u64 0, .int .u64 0, .int .i64 0, .bool false, .slice (some ⟨r7, 0, none⟩) 1 1] 46) := Blk.of HO7.out (HX9.out.block _ HO7.out.lt)
      have HA9 : Hid (x.At w9) := HA7.out.below HX9.out
      have HN9 : Hid (Rd w9 (.slice (some ⟨r7, 0, none⟩) 1 1) (sv [(⟨#[122]⟩ : ByteArray)])) := HN7.out.below HX9.out
      have HY9 : Hid (Below w.heap.size w w9) := ext_trans HY7.out HX9.out
      clear HB7 HO7 HA7 HN7 HY7 HX9
      refine wp_region_ext (by kernel_rfl) ?_
      have HB0 : Hid (Blk w9.drew b7 #[.int .i64 x.kind, .int .u64 x.num, .int .i64 x.node, .string x.key, .bool x.was, .string x.old, .int .u64 x.prev, .slice x.na x.nn x.nc, .slice x.ra x.rn x.rc, .slice x.ga x.gn x.gc, .slice x.oa x.om x.oc, .slice x.da x.dn x.dc] 36) := HB9.out
      have HO0 : Hid (Blk w9.drew (r7 + 1) #[.int .u64 tn, .int .i64 ty, .int .u64 0, .int .u64 0, .int .i64 0, .bool false, .slice (some ⟨r7, 0, none⟩) 1 1] 46) := HO9.out
      have HN0 : Hid (Rd w9.drew (.slice (some ⟨r7, 0, none⟩) 1 1) (sv [(⟨#[122]⟩ : ByteArray)])) := HN9.out.below (Below.drew (Below.refl _ _))
      have HA0 : Hid (x.At w9.drew) := HA9.out.below (Below.drew (Below.refl _ _))
      have HY0 : Hid (Below w.heap.size w w9.drew) := Below.drew HY9.out
      have HE0 : Hid (Below w7.heap.size w7 w7) := Below.refl _ _
      clear HB9 HO9 HN9 HA9 HY9 HE0
      haveI nA := cls_ext w9.drew
      have q0 := cellX (W0 := w9.drew) (show (w9.drew).cell? ⟨b7, 0, none⟩ = some (.int .i64 x.kind) from HB0.out.cell 0)
      have q1 := cellX (W0 := w9.drew) (show (w9.drew).cell? ⟨b7, 1, none⟩ = some (.int .u64 x.num) from HB0.out.cell 1)
      have q2 := cellX (W0 := w9.drew) (show (w9.drew).cell? ⟨b7, 2, none⟩ = some (.int .i64 x.node) from HB0.out.cell 2)
      have q3 := cellX (W0 := w9.drew) (show (w9.drew).cell? ⟨b7, 3, none⟩ = some (.string x.key) from HB0.out.cell 3)
      have q4 := cellX (W0 := w9.drew) (show (w9.drew).cell? ⟨b7, 4, none⟩ = some (.bool x.was) from HB0.out.cell 4)
      have q5 := cellX (W0 := w9.drew) (show (w9.drew).cell? ⟨b7, 5, none⟩ = some (.string x.old) from HB0.out.cell 5)
      have q6 := cellX (W0 := w9.drew) (show (w9.drew).cell? ⟨b7, 6, none⟩ = some (.int .u64 x.prev) from HB0.out.cell 6)
      have q7 := cellX (W0 := w9.drew) (show (w9.drew).cell? ⟨b7, 7, none⟩ = some (.slice x.na x.nn x.nc) from HB0.out.cell 7)
      have q8 := cellX (W0 := w9.drew) (show (w9.drew).cell? ⟨b7, 8, none⟩ = some (.slice x.ra x.rn x.rc) from HB0.out.cell 8)
      have q9 := cellX (W0 := w9.drew) (show (w9.drew).cell? ⟨b7, 9, none⟩ = some (.slice x.ga x.gn x.gc) from HB0.out.cell 9)
      have q10 := cellX (W0 := w9.drew) (show (w9.drew).cell? ⟨b7, 10, none⟩ = some (.slice x.oa x.om x.oc) from HB0.out.cell 10)
      have q11 := cellX (W0 := w9.drew) (show (w9.drew).cell? ⟨b7, 11, none⟩ = some (.slice x.da x.dn x.dc) from HB0.out.cell 11)
      have p0 := cellX (W0 := w9.drew) (show (w9.drew).cell? ⟨r7 + 1, 0, none⟩ = some _ from HO0.out.cell 0)
      have p1 := cellX (W0 := w9.drew) (show (w9.drew).cell? ⟨r7 + 1, 1, none⟩ = some _ from HO0.out.cell 1)
      have p2 := cellX (W0 := w9.drew) (show (w9.drew).cell? ⟨r7 + 1, 2, none⟩ = some _ from HO0.out.cell 2)
      have p3 := cellX (W0 := w9.drew) (show (w9.drew).cell? ⟨r7 + 1, 3, none⟩ = some _ from HO0.out.cell 3)
      have p4 := cellX (W0 := w9.drew) (show (w9.drew).cell? ⟨r7 + 1, 4, none⟩ = some _ from HO0.out.cell 4)
      have p5 := cellX (W0 := w9.drew) (show (w9.drew).cell? ⟨r7 + 1, 5, none⟩ = some _ from HO0.out.cell 5)
      have p6 := cellX (W0 := w9.drew) (show (w9.drew).cell? ⟨r7 + 1, 6, none⟩ = some _ from HO0.out.cell 6)
      have pz := cellX (W0 := w9.drew) (show (w9.drew).cell? ⟨r7, 0, none⟩ = some (.string (⟨#[122]⟩ : ByteArray)) from by have := HN0.out.at.2.2.2.str (j := 0) rfl (by simp); simpa [Addr.add] using this)
      refine wpAnyH_seg (by kernel_rfl) (fun _ _ _ h => h) [0, 2] 16 _ _ _ (Ext.refl _) (by kernel_rfl) ?_
      simp only [opsAt, List.getElem?_toArray, List.getElem?_cons_zero, List.getElem?_cons_succ, List.cons_append, List.nil_append]
      repeat (go_big_quiet_step (fail))
      refine wpQuiet_nil ?_
      clear nA pz q0 q1 q2 q3 q4 q5 q6 q7 q8 q9 q10 q11 p0 p1 p2 p3 p4 p5 p6
      have HRR : Hid (Calls Try.prog 18 #[.agg #[.int .i64 x.kind, .int .u64 x.num, .int .i64 x.node, .string x.key, .bool x.was, .string x.old, .int .u64 x.prev, .slice x.na x.nn x.nc, .slice x.ra x.rn x.rc, .slice x.ga x.gn x.gc, .slice x.oa x.om x.oc, .slice x.da x.dn x.dc]] w9.drew fun e w' => e = .returned (.bool b) ∧ Below w9.drew.heap.size w9.drew w') := by have := recRight_any x w9.drew HA0.out; rw [HXR.out] at this; exact this
      refine wpAnyH_callE (i := 1) (fuel := 15) 88 rfl (by kernel_rfl) rfl (Ext.refl _) (by kernel_rfl) (f := 18) (args := #[.agg #[.int .i64 x.kind, .int .u64 x.num, .int .i64 x.node, .string x.key, .bool x.was, .string x.old, .int .u64 x.prev, .slice x.na x.nn x.nc, .slice x.ra x.rn x.rc, .slice x.ga x.gn x.gc, .slice x.oa x.om x.oc, .slice x.da x.dn x.dc]]) (by kernel_rfl) HRR.out ?_
      rintro e x1 ⟨rfl, y⟩
      refine ⟨_, rfl, y, ?_⟩
      clear HRR
      have HB1 : Hid (Blk x1 b7 #[.int .i64 x.kind, .int .u64 x.num, .int .i64 x.node, .string x.key, .bool x.was, .string x.old, .int .u64 x.prev, .slice x.na x.nn x.nc, .slice x.ra x.rn x.rc, .slice x.ga x.gn x.gc, .slice x.oa x.om x.oc, .slice x.da x.dn x.dc] 36) := Blk.of HB0.out (y.block _ HB0.out.lt)
      have HO1 : Hid (Blk x1 (r7 + 1) #[.int .u64 tn, .int .i64 ty, .int .u64 0, .int .u64 0, .int .i64 0, .bool false, .slice (some ⟨r7, 0, none⟩) 1 1] 46) := Blk.of HO0.out (y.block _ HO0.out.lt)
      have HN1 : Hid (Rd x1 (.slice (some ⟨r7, 0, none⟩) 1 1) (sv [(⟨#[122]⟩ : ByteArray)])) := HN0.out.below y
      have HA1 : Hid (x.At x1) := HA0.out.below y
      have HY1 : Hid (Below w.heap.size w x1) := ext_trans HY0.out y
      clear HB0 HO0 HN0 HA0 HY0 y
      simp only [Act.put, List.setIfInBounds_toArray, List.set_cons_succ, List.set_cons_zero]
      haveI nA := cls_ext x1
      have q0 := cellX (W0 := x1) (show (x1).cell? ⟨b7, 0, none⟩ = some (.int .i64 x.kind) from HB1.out.cell 0)
      have q1 := cellX (W0 := x1) (show (x1).cell? ⟨b7, 1, none⟩ = some (.int .u64 x.num) from HB1.out.cell 1)
      have q2 := cellX (W0 := x1) (show (x1).cell? ⟨b7, 2, none⟩ = some (.int .i64 x.node) from HB1.out.cell 2)
      have q3 := cellX (W0 := x1) (show (x1).cell? ⟨b7, 3, none⟩ = some (.string x.key) from HB1.out.cell 3)
      have q4 := cellX (W0 := x1) (show (x1).cell? ⟨b7, 4, none⟩ = some (.bool x.was) from HB1.out.cell 4)
      have q5 := cellX (W0 := x1) (show (x1).cell? ⟨b7, 5, none⟩ = some (.string x.old) from HB1.out.cell 5)
      have q6 := cellX (W0 := x1) (show (x1).cell? ⟨b7, 6, none⟩ = some (.int .u64 x.prev) from HB1.out.cell 6)
      have q7 := cellX (W0 := x1) (show (x1).cell? ⟨b7, 7, none⟩ = some (.slice x.na x.nn x.nc) from HB1.out.cell 7)
      have q8 := cellX (W0 := x1) (show (x1).cell? ⟨b7, 8, none⟩ = some (.slice x.ra x.rn x.rc) from HB1.out.cell 8)
      have q9 := cellX (W0 := x1) (show (x1).cell? ⟨b7, 9, none⟩ = some (.slice x.ga x.gn x.gc) from HB1.out.cell 9)
      have q10 := cellX (W0 := x1) (show (x1).cell? ⟨b7, 10, none⟩ = some (.slice x.oa x.om x.oc) from HB1.out.cell 10)
      have q11 := cellX (W0 := x1) (show (x1).cell? ⟨b7, 11, none⟩ = some (.slice x.da x.dn x.dc) from HB1.out.cell 11)
      have p0 := cellX (W0 := x1) (show (x1).cell? ⟨r7 + 1, 0, none⟩ = some _ from HO1.out.cell 0)
      have p1 := cellX (W0 := x1) (show (x1).cell? ⟨r7 + 1, 1, none⟩ = some _ from HO1.out.cell 1)
      have p2 := cellX (W0 := x1) (show (x1).cell? ⟨r7 + 1, 2, none⟩ = some _ from HO1.out.cell 2)
      have p3 := cellX (W0 := x1) (show (x1).cell? ⟨r7 + 1, 3, none⟩ = some _ from HO1.out.cell 3)
      have p4 := cellX (W0 := x1) (show (x1).cell? ⟨r7 + 1, 4, none⟩ = some _ from HO1.out.cell 4)
      have p5 := cellX (W0 := x1) (show (x1).cell? ⟨r7 + 1, 5, none⟩ = some _ from HO1.out.cell 5)
      have p6 := cellX (W0 := x1) (show (x1).cell? ⟨r7 + 1, 6, none⟩ = some _ from HO1.out.cell 6)
      have pz := cellX (W0 := x1) (show (x1).cell? ⟨r7, 0, none⟩ = some (.string (⟨#[122]⟩ : ByteArray)) from by have := HN1.out.at.2.2.2.str (j := 0) rfl (by simp); simpa [Addr.add] using this)
      refine wpAnyH_seg (by kernel_rfl) (fun _ _ _ h => h) [3, 4, 5, 6, 7, 8, 9, 10, 11, 12, 13] 4 _ _ _ (Ext.refl _) (by kernel_rfl) ?_
      simp only [opsAt, List.getElem?_toArray, List.getElem?_cons_zero, List.getElem?_cons_succ, List.cons_append, List.nil_append]
      repeat (go_big_quiet_step (fail))
      refine wpQuiet_nil ?_
      clear nA pz q0 q1 q2 q3 q4 q5 q6 q7 q8 q9 q10 q11 p0 p1 p2 p3 p4 p5 p6
      have HC2 : Hid (Calls Try.prog 19 #[.agg #[.int .u64 tn, .int .i64 ty, .int .u64 0, .int .u64 0, .int .i64 0, .bool false, .slice (some ⟨r7, 0, none⟩) 1 1]] x1 fun e w' => ∃ a n c, e = .returned (.agg #[.int .u64 tn, .int .i64 ty, .int .u64 0, .int .u64 0, .int .i64 0, .bool false, .slice a n c]) ∧ OwnV w' (x1.heap.size + 2) 9 (.slice a n c) (sv [(⟨#[122]⟩ : ByteArray)]) ∧ Below x1.heap.size x1 w') := openClone_any (OpenV.mk tn ty 0 0 0 false (some ⟨r7, 0, none⟩) 1 1 [(⟨#[122]⟩ : ByteArray)]) x1 ⟨HN1.out, fun s hs => by rw [List.mem_singleton] at hs; subst hs; decide⟩ (by simp)
      refine wpAnyH_callE (i := 14) (fuel := 3) 101 rfl (by kernel_rfl) rfl (Ext.refl _) (by kernel_rfl) (f := 19) (args := #[.agg #[.int .u64 tn, .int .i64 ty, .int .u64 0, .int .u64 0, .int .i64 0, .bool false, .slice (some ⟨r7, 0, none⟩) 1 1]]) (by kernel_rfl) HC2.out ?_
      rintro e x2 ⟨a9, n9, c9, rfl, ho, y⟩
      refine ⟨_, rfl, y, ?_⟩
      have HQ : Hid (Rd x2 (.slice a9 n9 c9) (sv [(⟨#[122]⟩ : ByteArray)])) := ho.rd
      clear ho HC2
      have HB2 : Hid (Blk x2 b7 #[.int .i64 x.kind, .int .u64 x.num, .int .i64 x.node, .string x.key, .bool x.was, .string x.old, .int .u64 x.prev, .slice x.na x.nn x.nc, .slice x.ra x.rn x.rc, .slice x.ga x.gn x.gc, .slice x.oa x.om x.oc, .slice x.da x.dn x.dc] 36) := Blk.of HB1.out (y.block _ HB1.out.lt)
      have HO2 : Hid (Blk x2 (r7 + 1) #[.int .u64 tn, .int .i64 ty, .int .u64 0, .int .u64 0, .int .i64 0, .bool false, .slice (some ⟨r7, 0, none⟩) 1 1] 46) := Blk.of HO1.out (y.block _ HO1.out.lt)
      have HN2 : Hid (Rd x2 (.slice (some ⟨r7, 0, none⟩) 1 1) (sv [(⟨#[122]⟩ : ByteArray)])) := HN1.out.below y
      have HA2 : Hid (x.At x2) := HA1.out.below y
      have HY2 : Hid (Below w.heap.size w x2) := ext_trans HY1.out y
      clear HB1 HO1 HN1 HA1 HY1 y
      simp only [Act.put, List.setIfInBounds_toArray, List.set_cons_succ, List.set_cons_zero]
      have HAL : Hid (Calls Try.prog 20 #[.agg #[.int .u64 tn, .int .i64 ty, .int .u64 0, .int .u64 0, .int .i64 0, .bool false, .slice (some ⟨r7, 0, none⟩) 1 1], .agg #[.int .u64 tn, .int .i64 ty, .int .u64 0, .int .u64 0, .int .i64 0, .bool false, .slice a9 n9 c9]] x2 fun e w' => e = .returned (.bool true) ∧ Below x2.heap.size x2 w') := alike_same (OpenV.mk tn ty 0 0 0 false (some ⟨r7, 0, none⟩) 1 1 [(⟨#[122]⟩ : ByteArray)]) a9 n9 c9 x2 HN2.out HQ.out
      refine wpAnyH_callE (i := 15) (fuel := 2) 102 rfl (by kernel_rfl) rfl (Ext.refl _) (by kernel_rfl) (f := 20) (args := #[.agg #[.int .u64 tn, .int .i64 ty, .int .u64 0, .int .u64 0, .int .i64 0, .bool false, .slice (some ⟨r7, 0, none⟩) 1 1], .agg #[.int .u64 tn, .int .i64 ty, .int .u64 0, .int .u64 0, .int .i64 0, .bool false, .slice a9 n9 c9]]) (by kernel_rfl) HAL.out ?_
      rintro e x3 ⟨rfl, y⟩
      refine ⟨_, rfl, y, ?_⟩
      clear HAL HQ
      have HB3 : Hid (Blk x3 b7 #[.int .i64 x.kind, .int .u64 x.num, .int .i64 x.node, .string x.key, .bool x.was, .string x.old, .int .u64 x.prev, .slice x.na x.nn x.nc, .slice x.ra x.rn x.rc, .slice x.ga x.gn x.gc, .slice x.oa x.om x.oc, .slice x.da x.dn x.dc] 36) := Blk.of HB2.out (y.block _ HB2.out.lt)
      have HO3 : Hid (Blk x3 (r7 + 1) #[.int .u64 tn, .int .i64 ty, .int .u64 0, .int .u64 0, .int .i64 0, .bool false, .slice (some ⟨r7, 0, none⟩) 1 1] 46) := Blk.of HO2.out (y.block _ HO2.out.lt)
      have HN3 : Hid (Rd x3 (.slice (some ⟨r7, 0, none⟩) 1 1) (sv [(⟨#[122]⟩ : ByteArray)])) := HN2.out.below y
      have HA3 : Hid (x.At x3) := HA2.out.below y
      have HY3 : Hid (Below w.heap.size w x3) := ext_trans HY2.out y
      clear HB2 HO2 HN2 HA2 HY2 y
      simp only [Act.put, List.setIfInBounds_toArray, List.set_cons_succ, List.set_cons_zero]
      haveI nA := cls_ext x3
      have q0 := cellX (W0 := x3) (show (x3).cell? ⟨b7, 0, none⟩ = some (.int .i64 x.kind) from HB3.out.cell 0)
      have q1 := cellX (W0 := x3) (show (x3).cell? ⟨b7, 1, none⟩ = some (.int .u64 x.num) from HB3.out.cell 1)
      have q2 := cellX (W0 := x3) (show (x3).cell? ⟨b7, 2, none⟩ = some (.int .i64 x.node) from HB3.out.cell 2)
      have q3 := cellX (W0 := x3) (show (x3).cell? ⟨b7, 3, none⟩ = some (.string x.key) from HB3.out.cell 3)
      have q4 := cellX (W0 := x3) (show (x3).cell? ⟨b7, 4, none⟩ = some (.bool x.was) from HB3.out.cell 4)
      have q5 := cellX (W0 := x3) (show (x3).cell? ⟨b7, 5, none⟩ = some (.string x.old) from HB3.out.cell 5)
      have q6 := cellX (W0 := x3) (show (x3).cell? ⟨b7, 6, none⟩ = some (.int .u64 x.prev) from HB3.out.cell 6)
      have q7 := cellX (W0 := x3) (show (x3).cell? ⟨b7, 7, none⟩ = some (.slice x.na x.nn x.nc) from HB3.out.cell 7)
      have q8 := cellX (W0 := x3) (show (x3).cell? ⟨b7, 8, none⟩ = some (.slice x.ra x.rn x.rc) from HB3.out.cell 8)
      have q9 := cellX (W0 := x3) (show (x3).cell? ⟨b7, 9, none⟩ = some (.slice x.ga x.gn x.gc) from HB3.out.cell 9)
      have q10 := cellX (W0 := x3) (show (x3).cell? ⟨b7, 10, none⟩ = some (.slice x.oa x.om x.oc) from HB3.out.cell 10)
      have q11 := cellX (W0 := x3) (show (x3).cell? ⟨b7, 11, none⟩ = some (.slice x.da x.dn x.dc) from HB3.out.cell 11)
      have p0 := cellX (W0 := x3) (show (x3).cell? ⟨r7 + 1, 0, none⟩ = some _ from HO3.out.cell 0)
      have p1 := cellX (W0 := x3) (show (x3).cell? ⟨r7 + 1, 1, none⟩ = some _ from HO3.out.cell 1)
      have p2 := cellX (W0 := x3) (show (x3).cell? ⟨r7 + 1, 2, none⟩ = some _ from HO3.out.cell 2)
      have p3 := cellX (W0 := x3) (show (x3).cell? ⟨r7 + 1, 3, none⟩ = some _ from HO3.out.cell 3)
      have p4 := cellX (W0 := x3) (show (x3).cell? ⟨r7 + 1, 4, none⟩ = some _ from HO3.out.cell 4)
      have p5 := cellX (W0 := x3) (show (x3).cell? ⟨r7 + 1, 5, none⟩ = some _ from HO3.out.cell 5)
      have p6 := cellX (W0 := x3) (show (x3).cell? ⟨r7 + 1, 6, none⟩ = some _ from HO3.out.cell 6)
      have pz := cellX (W0 := x3) (show (x3).cell? ⟨r7, 0, none⟩ = some (.string (⟨#[122]⟩ : ByteArray)) from by have := HN3.out.at.2.2.2.str (j := 0) rfl (by simp); simpa [Addr.add] using this)
      refine wpAnyH_seg (by kernel_rfl) (fun _ _ _ h => h) [16, 17] 0 _ _ _ (Ext.refl _) (by kernel_rfl) ?_
      simp only [opsAt, List.getElem?_toArray, List.getElem?_cons_zero, List.getElem?_cons_succ, List.cons_append, List.nil_append]
      repeat (go_big_quiet_step (fail))
      refine wpQuiet_nil ?_
      clear nA pz q0 q1 q2 q3 q4 q5 q6 q7 q8 q9 q10 q11 p0 p1 p2 p3 p4 p5 p6
      refine wpAnyH_done (by kernel_rfl) (NoPanic.normal ?_) 0
      have YE : Hid _ := HY3.out
      clear HB3 HO3 HN3 HA3 HY3
      go_wp2
      go_ret
      exact ⟨ret_bool (by simp), YE.out⟩
    · by_cases h1 : K = 1
      · subst h1
        clear hKl hKh h8
        have z3 := HB7.out.cell 3
        have f3 := HB7.out.frozen 3
        have HBZ : Hid (Blk (w3.setCell ⟨b7, 3, none⟩ (.string (⟨#[107]⟩ : ByteArray))) b7 #[.int .i64 1, .int .u64 tn, .int .i64 ty, .string (⟨#[107]⟩ : ByteArray), .bool false, .string (⟨#[]⟩ : ByteArray), .int .u64 0, .slice none 0 0, .slice none 0 0, .slice none 0 0, .slice none 0 0, .slice none 0 0] 36) := by show Blk _ _ _ _; have := HB7.out.set 3 (.string (⟨#[107]⟩ : ByteArray)); simpa using this
        have HTZ : Hid (Blk (w3.setCell ⟨b7, 3, none⟩ (.string (⟨#[107]⟩ : ByteArray))) w.heap.size #[.int .u64 tn, .int .i64 ty] 24) := HT4.out.setOther _ _ (by have := HSZ.out; omega)
        have HYZ : Hid (Below w.heap.size w (w3.setCell ⟨b7, 3, none⟩ (.string (⟨#[107]⟩ : ByteArray)))) := HY4.out.setCell (by have := HSZ.out; show _ ≤ b7; omega) _
        go_upto_region 11 with fail
        generalize (w3.setCell ⟨b7, 3, none⟩ (.string (⟨#[107]⟩ : ByteArray))) = w4 at *
        clear z3 f3 HB7 HT4 HY4
        have HB7 := HBZ
        have HT4 := HTZ
        have HY4 := HYZ
        clear HBZ HTZ HYZ
        have HX0 : Hid ((RecV.mk 1 tn ty (⟨#[107]⟩ : ByteArray) false (⟨#[]⟩ : ByteArray) 0 none 0 0 [] none 0 0 [] none 0 0 [] none 0 0 [] none 0 0 []).At w4) := recOf_at w4 1 tn ty (⟨#[107]⟩ : ByteArray) false (⟨#[]⟩ : ByteArray) 0 (by decide) (by decide)
        have HR0 : Hid (rightRec (RecV.mk 1 tn ty (⟨#[107]⟩ : ByteArray) false (⟨#[]⟩ : ByteArray) 0 none 0 0 [] none 0 0 [] none 0 0 [] none 0 0 [] none 0 0 []) = true) := by show _ = _; rw [right_parts]; simp [key_k, HT.out, emp_size]
        have HRC : Hid (Calls Try.prog 18 #[.agg #[.int .i64 1, .int .u64 tn, .int .i64 ty, .string (⟨#[107]⟩ : ByteArray), .bool false, .string (⟨#[]⟩ : ByteArray), .int .u64 0, .slice none 0 0, .slice none 0 0, .slice none 0 0, .slice none 0 0, .slice none 0 0]] w4 fun e w' => e = .returned (.bool true) ∧ Below w4.heap.size w4 w') := by have := recRight_any (RecV.mk 1 tn ty (⟨#[107]⟩ : ByteArray) false (⟨#[]⟩ : ByteArray) 0 none 0 0 [] none 0 0 [] none 0 0 [] none 0 0 [] none 0 0 []) w4 HX0.out; rw [HR0.out] at this; exact this
        clear HX0 HR0
        have z0 : w4.cell? ⟨b7, 0, none⟩ = some _ := HB7.out.cell 0
        have z1 : w4.cell? ⟨b7, 1, none⟩ = some _ := HB7.out.cell 1
        have z2 : w4.cell? ⟨b7, 2, none⟩ = some _ := HB7.out.cell 2
        have z3 : w4.cell? ⟨b7, 3, none⟩ = some _ := HB7.out.cell 3
        have z4 : w4.cell? ⟨b7, 4, none⟩ = some _ := HB7.out.cell 4
        have z5 : w4.cell? ⟨b7, 5, none⟩ = some _ := HB7.out.cell 5
        have z6 : w4.cell? ⟨b7, 6, none⟩ = some _ := HB7.out.cell 6
        have z7 : w4.cell? ⟨b7, 7, none⟩ = some _ := HB7.out.cell 7
        have z8 : w4.cell? ⟨b7, 8, none⟩ = some _ := HB7.out.cell 8
        have z9 : w4.cell? ⟨b7, 9, none⟩ = some _ := HB7.out.cell 9
        have z10 : w4.cell? ⟨b7, 10, none⟩ = some _ := HB7.out.cell 10
        have z11 : w4.cell? ⟨b7, 11, none⟩ = some _ := HB7.out.cell 11
        go_wp2_with fail
        refine HRC.out.mono ?_
        rintro e w5 ⟨rfl, y⟩
        have HB8 : Hid (Blk w5 b7 #[.int .i64 1, .int .u64 tn, .int .i64 ty, .string (⟨#[107]⟩ : ByteArray), .bool false, .string (⟨#[]⟩ : ByteArray), .int .u64 0, .slice none 0 0, .slice none 0 0, .slice none 0 0, .slice none 0 0, .slice none 0 0] 36) := Blk.of HB7.out (y.block _ HB7.out.lt)
        have HT5 : Hid (Blk w5 w.heap.size #[.int .u64 tn, .int .i64 ty] 24) := Blk.of HT4.out (y.block _ HT4.out.lt)
        have HY5 : Hid (Below w.heap.size w w5) := ext_trans HY4.out y
        clear y HB7 HT4 HY4 HRC z0 z1 z2 z3 z4 z5 z6 z7 z8 z9 z10 z11
        go_upto_block 0 with fail
        go_cut [8] from 34 to 78 (fun s8 wx => ∃ b, s8 = .bool b ∧ RK w b7 tn ty b wx)
        case first =>
          rcases (show f = 0 ∨ f = 1 ∨ f = 2 ∨ f = 3 ∨ f = 4 ∨ f = 5 ∨ f = 6 ∨ f = 7 by omega) with rfl | rfl | rfl | rfl | rfl | rfl | rfl | rfl
          · have HRX : Hid (rightRec (RecV.mk 1 tn ty (⟨#[120]⟩ : ByteArray) false (⟨#[]⟩ : ByteArray) 0 none 0 0 [] none 0 0 [] none 0 0 [] none 0 0 [] none 0 0 []) = true) := by
              show _ = _
              rw [right_parts]
              simp [emp_size, emp_yes, emp_no1, emp_no2, key_k, key_x, reads_ab, nodes_15, HT.out]
            have hsz : w5.heap.size ≤ w5.heap.size := Nat.le_refl _
            have HBA : Hid (Blk w5 b7 #[.int .i64 1, .int .u64 tn, .int .i64 ty, .string (⟨#[107]⟩ : ByteArray), .bool false, .string (⟨#[]⟩ : ByteArray), .int .u64 0, .slice none 0 0, .slice none 0 0, .slice none 0 0, .slice none 0 0, .slice none 0 0] 36) := HB8
            have HTA := HT5
            have HYA := HY5
            have HBX : Hid (Blk (w5.setCell ⟨b7, 3, none⟩ (.string (⟨#[120]⟩ : ByteArray))) b7 #[.int .i64 1, .int .u64 tn, .int .i64 ty, .string (⟨#[120]⟩ : ByteArray), .bool false, .string (⟨#[]⟩ : ByteArray), .int .u64 0, .slice none 0 0, .slice none 0 0, .slice none 0 0, .slice none 0 0, .slice none 0 0] 36) := by show Blk _ _ _ _; have := HBA.out.set 3 (.string (⟨#[120]⟩ : ByteArray)); simpa using this
            have HTX : Hid (Blk (w5.setCell ⟨b7, 3, none⟩ (.string (⟨#[120]⟩ : ByteArray))) w.heap.size #[.int .u64 tn, .int .i64 ty] 24) := HTA.out.setOther _ _ (by have := HSZ.out; omega)
            have HYX : Hid (Below w.heap.size w (w5.setCell ⟨b7, 3, none⟩ (.string (⟨#[120]⟩ : ByteArray)))) := HYA.out.setCell (by have := HSZ.out; show _ ≤ b7; omega) _
            have HLT : Hid (b7 < w5.heap.size) := HB8.out.lt
            have HAX : Hid (RecV.At (w5.setCell ⟨b7, 3, none⟩ (.string (⟨#[120]⟩ : ByteArray))) (RecV.mk 1 tn ty (⟨#[120]⟩ : ByteArray) false (⟨#[]⟩ : ByteArray) 0 none 0 0 [] none 0 0 [] none 0 0 [] none 0 0 [] none 0 0 [])) := ⟨(show ByteArray.size (⟨#[120]⟩ : ByteArray) ≤ maxLen by decide), (show ByteArray.size (⟨#[]⟩ : ByteArray) ≤ maxLen by decide), Rd.nil _, Rd.nil _, (fun s hs => nomatch hs), RowsN.nil _ _ _, (fun s hs => nomatch hs), RowsN.nil _ _ _, (fun s hs => nomatch hs), RowsN.nil _ _ _, (fun s hs => nomatch hs)⟩
            have HRK : Hid (RK w b7 tn ty (true) (w5.setCell ⟨b7, 3, none⟩ (.string (⟨#[120]⟩ : ByteArray)))) := ⟨(RecV.mk 1 tn ty (⟨#[120]⟩ : ByteArray) false (⟨#[]⟩ : ByteArray) 0 none 0 0 [] none 0 0 [] none 0 0 [] none 0 0 [] none 0 0 []), HRX.out, HBX.out, HAX.out, HTX.out, HYX.out, HSZ.out⟩
            have z3 : w5.cell? ⟨b7, 3, none⟩ = some _ := HBA.out.cell 3
            have f3 : w5.frozen? ⟨b7, 3, none⟩ = false := HBA.out.frozen 3
            clear HRX HBA HTA HYA HBX HTX HYX HAX HLT hsz
            go_wp2
            go_meet
            case rel => exact ⟨true, by first | rfl | simp, HRK.out⟩
          · have HRX : Hid (rightRec (RecV.mk 1 tn ty (⟨#[107]⟩ : ByteArray) true (⟨#[]⟩ : ByteArray) 0 none 0 0 [] none 0 0 [] none 0 0 [] none 0 0 [] none 0 0 []) = true) := by
              show _ = _
              rw [right_parts]
              simp [emp_size, emp_yes, emp_no1, emp_no2, key_k, key_x, reads_ab, nodes_15, HT.out]
            have hsz : w5.heap.size ≤ w5.heap.size := Nat.le_refl _
            have HBA : Hid (Blk w5 b7 #[.int .i64 1, .int .u64 tn, .int .i64 ty, .string (⟨#[107]⟩ : ByteArray), .bool false, .string (⟨#[]⟩ : ByteArray), .int .u64 0, .slice none 0 0, .slice none 0 0, .slice none 0 0, .slice none 0 0, .slice none 0 0] 36) := HB8
            have HTA := HT5
            have HYA := HY5
            have HBX : Hid (Blk (w5.setCell ⟨b7, 4, none⟩ (.bool true)) b7 #[.int .i64 1, .int .u64 tn, .int .i64 ty, .string (⟨#[107]⟩ : ByteArray), .bool true, .string (⟨#[]⟩ : ByteArray), .int .u64 0, .slice none 0 0, .slice none 0 0, .slice none 0 0, .slice none 0 0, .slice none 0 0] 36) := by show Blk _ _ _ _; have := HBA.out.set 4 (.bool true); simpa using this
            have HTX : Hid (Blk (w5.setCell ⟨b7, 4, none⟩ (.bool true)) w.heap.size #[.int .u64 tn, .int .i64 ty] 24) := HTA.out.setOther _ _ (by have := HSZ.out; omega)
            have HYX : Hid (Below w.heap.size w (w5.setCell ⟨b7, 4, none⟩ (.bool true))) := HYA.out.setCell (by have := HSZ.out; show _ ≤ b7; omega) _
            have HLT : Hid (b7 < w5.heap.size) := HB8.out.lt
            have HAX : Hid (RecV.At (w5.setCell ⟨b7, 4, none⟩ (.bool true)) (RecV.mk 1 tn ty (⟨#[107]⟩ : ByteArray) true (⟨#[]⟩ : ByteArray) 0 none 0 0 [] none 0 0 [] none 0 0 [] none 0 0 [] none 0 0 [])) := ⟨(show ByteArray.size (⟨#[107]⟩ : ByteArray) ≤ maxLen by decide), (show ByteArray.size (⟨#[]⟩ : ByteArray) ≤ maxLen by decide), Rd.nil _, Rd.nil _, (fun s hs => nomatch hs), RowsN.nil _ _ _, (fun s hs => nomatch hs), RowsN.nil _ _ _, (fun s hs => nomatch hs), RowsN.nil _ _ _, (fun s hs => nomatch hs)⟩
            have HRK : Hid (RK w b7 tn ty (true) (w5.setCell ⟨b7, 4, none⟩ (.bool true))) := ⟨(RecV.mk 1 tn ty (⟨#[107]⟩ : ByteArray) true (⟨#[]⟩ : ByteArray) 0 none 0 0 [] none 0 0 [] none 0 0 [] none 0 0 [] none 0 0 []), HRX.out, HBX.out, HAX.out, HTX.out, HYX.out, HSZ.out⟩
            have z4 : w5.cell? ⟨b7, 4, none⟩ = some _ := HBA.out.cell 4
            have f4 : w5.frozen? ⟨b7, 4, none⟩ = false := HBA.out.frozen 4
            clear HRX HBA HTA HYA HBX HTX HYX HAX HLT hsz
            go_wp2
            go_meet
            case rel => exact ⟨true, by first | rfl | simp, HRK.out⟩
          · have HRX : Hid (rightRec (RecV.mk 1 tn ty (⟨#[107]⟩ : ByteArray) false (⟨#[]⟩ : ByteArray) 5 none 0 0 [] none 0 0 [] none 0 0 [] none 0 0 [] none 0 0 []) = true) := by
              show _ = _
              rw [right_parts]
              simp [emp_size, emp_yes, emp_no1, emp_no2, key_k, key_x, reads_ab, nodes_15, HT.out]
            have hsz : w5.heap.size ≤ w5.heap.size := Nat.le_refl _
            have HBA : Hid (Blk w5 b7 #[.int .i64 1, .int .u64 tn, .int .i64 ty, .string (⟨#[107]⟩ : ByteArray), .bool false, .string (⟨#[]⟩ : ByteArray), .int .u64 0, .slice none 0 0, .slice none 0 0, .slice none 0 0, .slice none 0 0, .slice none 0 0] 36) := HB8
            have HTA := HT5
            have HYA := HY5
            have HBX : Hid (Blk (w5.setCell ⟨b7, 6, none⟩ (.int .u64 5)) b7 #[.int .i64 1, .int .u64 tn, .int .i64 ty, .string (⟨#[107]⟩ : ByteArray), .bool false, .string (⟨#[]⟩ : ByteArray), .int .u64 5, .slice none 0 0, .slice none 0 0, .slice none 0 0, .slice none 0 0, .slice none 0 0] 36) := by show Blk _ _ _ _; have := HBA.out.set 6 (.int .u64 5); simpa using this
            have HTX : Hid (Blk (w5.setCell ⟨b7, 6, none⟩ (.int .u64 5)) w.heap.size #[.int .u64 tn, .int .i64 ty] 24) := HTA.out.setOther _ _ (by have := HSZ.out; omega)
            have HYX : Hid (Below w.heap.size w (w5.setCell ⟨b7, 6, none⟩ (.int .u64 5))) := HYA.out.setCell (by have := HSZ.out; show _ ≤ b7; omega) _
            have HLT : Hid (b7 < w5.heap.size) := HB8.out.lt
            have HAX : Hid (RecV.At (w5.setCell ⟨b7, 6, none⟩ (.int .u64 5)) (RecV.mk 1 tn ty (⟨#[107]⟩ : ByteArray) false (⟨#[]⟩ : ByteArray) 5 none 0 0 [] none 0 0 [] none 0 0 [] none 0 0 [] none 0 0 [])) := ⟨(show ByteArray.size (⟨#[107]⟩ : ByteArray) ≤ maxLen by decide), (show ByteArray.size (⟨#[]⟩ : ByteArray) ≤ maxLen by decide), Rd.nil _, Rd.nil _, (fun s hs => nomatch hs), RowsN.nil _ _ _, (fun s hs => nomatch hs), RowsN.nil _ _ _, (fun s hs => nomatch hs), RowsN.nil _ _ _, (fun s hs => nomatch hs)⟩
            have HRK : Hid (RK w b7 tn ty (true) (w5.setCell ⟨b7, 6, none⟩ (.int .u64 5))) := ⟨(RecV.mk 1 tn ty (⟨#[107]⟩ : ByteArray) false (⟨#[]⟩ : ByteArray) 5 none 0 0 [] none 0 0 [] none 0 0 [] none 0 0 [] none 0 0 []), HRX.out, HBX.out, HAX.out, HTX.out, HYX.out, HSZ.out⟩
            have z6 : w5.cell? ⟨b7, 6, none⟩ = some _ := HBA.out.cell 6
            have f6 : w5.frozen? ⟨b7, 6, none⟩ = false := HBA.out.frozen 6
            clear HRX HBA HTA HYA HBX HTX HYX HAX HLT hsz
            go_wp2
            go_meet
            case rel => exact ⟨true, by first | rfl | simp, HRK.out⟩
          · have HRX : Hid (rightRec (RecV.mk 1 tn ty (⟨#[107]⟩ : ByteArray) false (⟨#[]⟩ : ByteArray) 0 (some ⟨w5.heap.size, 0, none⟩) 2 2 [1, 5] none 0 0 [] none 0 0 [] none 0 0 [] none 0 0 []) = false) := by
              show _ = _
              rw [right_parts]
              simp [emp_size, emp_yes, emp_no1, emp_no2, key_k, key_x, reads_ab, nodes_15, HT.out]
            have HBA : Hid (Blk (w5.alloc (.cells #[.int .i64 1, .int .i64 5] 3)) b7 #[.int .i64 1, .int .u64 tn, .int .i64 ty, .string (⟨#[107]⟩ : ByteArray), .bool false, .string (⟨#[]⟩ : ByteArray), .int .u64 0, .slice none 0 0, .slice none 0 0, .slice none 0 0, .slice none 0 0, .slice none 0 0] 36) := HB8.out.alloc _
            have HTA : Hid (Blk (w5.alloc (.cells #[.int .i64 1, .int .i64 5] 3)) w.heap.size #[.int .u64 tn, .int .i64 ty] 24) := HT5.out.alloc _
            have HYA : Hid (Below w.heap.size w (w5.alloc (.cells #[.int .i64 1, .int .i64 5] 3))) := HY5.out.alloc HY5.out.size _
            have HBX : Hid (Blk ((w5.alloc (.cells #[.int .i64 1, .int .i64 5] 3)).setCell ⟨b7, 7, none⟩ (.slice (some ⟨w5.heap.size, 0, none⟩) 2 2)) b7 #[.int .i64 1, .int .u64 tn, .int .i64 ty, .string (⟨#[107]⟩ : ByteArray), .bool false, .string (⟨#[]⟩ : ByteArray), .int .u64 0, .slice (some ⟨w5.heap.size, 0, none⟩) 2 2, .slice none 0 0, .slice none 0 0, .slice none 0 0, .slice none 0 0] 36) := by show Blk _ _ _ _; have := HBA.out.set 7 (.slice (some ⟨w5.heap.size, 0, none⟩) 2 2); simpa using this
            have HTX : Hid (Blk ((w5.alloc (.cells #[.int .i64 1, .int .i64 5] 3)).setCell ⟨b7, 7, none⟩ (.slice (some ⟨w5.heap.size, 0, none⟩) 2 2)) w.heap.size #[.int .u64 tn, .int .i64 ty] 24) := HTA.out.setOther _ _ (by have := HSZ.out; omega)
            have HYX : Hid (Below w.heap.size w ((w5.alloc (.cells #[.int .i64 1, .int .i64 5] 3)).setCell ⟨b7, 7, none⟩ (.slice (some ⟨w5.heap.size, 0, none⟩) 2 2))) := HYA.out.setCell (by have := HSZ.out; show _ ≤ b7; omega) _
            have HLT : Hid (b7 < w5.heap.size) := HB8.out.lt
            have HN : Hid (Rd ((w5.alloc (.cells #[.int .i64 1, .int .i64 5] 3)).setCell ⟨b7, 7, none⟩ (.slice (some ⟨w5.heap.size, 0, none⟩) 2 2)) (.slice (some ⟨w5.heap.size, 0, none⟩) 2 2) (iv [1, 5])) := (OwnV.kept (w := (w5.alloc (.cells #[.int .i64 1, .int .i64 5] 3))) (World.ownsRow_lit w5 #[.int .i64 1, .int .i64 5] 2 (Nat.le_refl _) (by simp [maxLen]) rfl : OwnV (w5.alloc (.cells #[.int .i64 1, .int .i64 5] 3)) w5.heap.size 3 (.slice (some ⟨w5.heap.size, 0, none⟩) 2 2) (iv [1, 5])) (fun g hg => Below.heap_setCell _ _ _ _ (by simp [Value.ownBlock] at hg; have := HLT.out; show g ≠ b7; omega))).rd
            have HAX : Hid (RecV.At ((w5.alloc (.cells #[.int .i64 1, .int .i64 5] 3)).setCell ⟨b7, 7, none⟩ (.slice (some ⟨w5.heap.size, 0, none⟩) 2 2)) (RecV.mk 1 tn ty (⟨#[107]⟩ : ByteArray) false (⟨#[]⟩ : ByteArray) 0 (some ⟨w5.heap.size, 0, none⟩) 2 2 [1, 5] none 0 0 [] none 0 0 [] none 0 0 [] none 0 0 [])) := ⟨(show ByteArray.size (⟨#[107]⟩ : ByteArray) ≤ maxLen by decide), (show ByteArray.size (⟨#[]⟩ : ByteArray) ≤ maxLen by decide), HN.out, Rd.nil _, (fun s hs => nomatch hs), RowsN.nil _ _ _, (fun s hs => nomatch hs), RowsN.nil _ _ _, (fun s hs => nomatch hs), RowsN.nil _ _ _, (fun s hs => nomatch hs)⟩
            have HRK : Hid (RK w b7 tn ty (false) ((w5.alloc (.cells #[.int .i64 1, .int .i64 5] 3)).setCell ⟨b7, 7, none⟩ (.slice (some ⟨w5.heap.size, 0, none⟩) 2 2))) := ⟨(RecV.mk 1 tn ty (⟨#[107]⟩ : ByteArray) false (⟨#[]⟩ : ByteArray) 0 (some ⟨w5.heap.size, 0, none⟩) 2 2 [1, 5] none 0 0 [] none 0 0 [] none 0 0 [] none 0 0 []), HRX.out, HBX.out, HAX.out, HTX.out, HYX.out, HSZ.out⟩
            have z7 : (w5.alloc (.cells #[.int .i64 1, .int .i64 5] 3)).cell? ⟨b7, 7, none⟩ = some _ := HBA.out.cell 7
            have f7 : (w5.alloc (.cells #[.int .i64 1, .int .i64 5] 3)).frozen? ⟨b7, 7, none⟩ = false := HBA.out.frozen 7
            clear HRX HBA HTA HYA HBX HTX HYX HAX HLT HN
            go_wp2
            go_meet
            case rel => exact ⟨false, by first | rfl | simp, HRK.out⟩
          · have HRX : Hid (rightRec (RecV.mk 1 tn ty (⟨#[107]⟩ : ByteArray) false (⟨#[]⟩ : ByteArray) 0 none 0 0 [] (some ⟨w5.heap.size, 0, none⟩) 2 2 [(⟨#[97]⟩ : ByteArray), (⟨#[98]⟩ : ByteArray)] none 0 0 [] none 0 0 [] none 0 0 []) = false) := by
              show _ = _
              rw [right_parts]
              simp [emp_size, emp_yes, emp_no1, emp_no2, key_k, key_x, reads_ab, nodes_15, HT.out]
            have HBA : Hid (Blk (w5.alloc (.cells #[.string (⟨#[97]⟩ : ByteArray), .string (⟨#[98]⟩ : ByteArray)] 9)) b7 #[.int .i64 1, .int .u64 tn, .int .i64 ty, .string (⟨#[107]⟩ : ByteArray), .bool false, .string (⟨#[]⟩ : ByteArray), .int .u64 0, .slice none 0 0, .slice none 0 0, .slice none 0 0, .slice none 0 0, .slice none 0 0] 36) := HB8.out.alloc _
            have HTA : Hid (Blk (w5.alloc (.cells #[.string (⟨#[97]⟩ : ByteArray), .string (⟨#[98]⟩ : ByteArray)] 9)) w.heap.size #[.int .u64 tn, .int .i64 ty] 24) := HT5.out.alloc _
            have HYA : Hid (Below w.heap.size w (w5.alloc (.cells #[.string (⟨#[97]⟩ : ByteArray), .string (⟨#[98]⟩ : ByteArray)] 9))) := HY5.out.alloc HY5.out.size _
            have HBX : Hid (Blk ((w5.alloc (.cells #[.string (⟨#[97]⟩ : ByteArray), .string (⟨#[98]⟩ : ByteArray)] 9)).setCell ⟨b7, 8, none⟩ (.slice (some ⟨w5.heap.size, 0, none⟩) 2 2)) b7 #[.int .i64 1, .int .u64 tn, .int .i64 ty, .string (⟨#[107]⟩ : ByteArray), .bool false, .string (⟨#[]⟩ : ByteArray), .int .u64 0, .slice none 0 0, .slice (some ⟨w5.heap.size, 0, none⟩) 2 2, .slice none 0 0, .slice none 0 0, .slice none 0 0] 36) := by show Blk _ _ _ _; have := HBA.out.set 8 (.slice (some ⟨w5.heap.size, 0, none⟩) 2 2); simpa using this
            have HTX : Hid (Blk ((w5.alloc (.cells #[.string (⟨#[97]⟩ : ByteArray), .string (⟨#[98]⟩ : ByteArray)] 9)).setCell ⟨b7, 8, none⟩ (.slice (some ⟨w5.heap.size, 0, none⟩) 2 2)) w.heap.size #[.int .u64 tn, .int .i64 ty] 24) := HTA.out.setOther _ _ (by have := HSZ.out; omega)
            have HYX : Hid (Below w.heap.size w ((w5.alloc (.cells #[.string (⟨#[97]⟩ : ByteArray), .string (⟨#[98]⟩ : ByteArray)] 9)).setCell ⟨b7, 8, none⟩ (.slice (some ⟨w5.heap.size, 0, none⟩) 2 2))) := HYA.out.setCell (by have := HSZ.out; show _ ≤ b7; omega) _
            have HLT : Hid (b7 < w5.heap.size) := HB8.out.lt
            have HN : Hid (Rd ((w5.alloc (.cells #[.string (⟨#[97]⟩ : ByteArray), .string (⟨#[98]⟩ : ByteArray)] 9)).setCell ⟨b7, 8, none⟩ (.slice (some ⟨w5.heap.size, 0, none⟩) 2 2)) (.slice (some ⟨w5.heap.size, 0, none⟩) 2 2) (sv [(⟨#[97]⟩ : ByteArray), (⟨#[98]⟩ : ByteArray)])) := (OwnV.kept (w := (w5.alloc (.cells #[.string (⟨#[97]⟩ : ByteArray), .string (⟨#[98]⟩ : ByteArray)] 9))) (World.ownsRow_lit w5 #[.string (⟨#[97]⟩ : ByteArray), .string (⟨#[98]⟩ : ByteArray)] 2 (Nat.le_refl _) (by simp [maxLen]) rfl : OwnV (w5.alloc (.cells #[.string (⟨#[97]⟩ : ByteArray), .string (⟨#[98]⟩ : ByteArray)] 9)) w5.heap.size 9 (.slice (some ⟨w5.heap.size, 0, none⟩) 2 2) (sv [(⟨#[97]⟩ : ByteArray), (⟨#[98]⟩ : ByteArray)])) (fun g hg => Below.heap_setCell _ _ _ _ (by simp [Value.ownBlock] at hg; have := HLT.out; show g ≠ b7; omega))).rd
            have HAX : Hid (RecV.At ((w5.alloc (.cells #[.string (⟨#[97]⟩ : ByteArray), .string (⟨#[98]⟩ : ByteArray)] 9)).setCell ⟨b7, 8, none⟩ (.slice (some ⟨w5.heap.size, 0, none⟩) 2 2)) (RecV.mk 1 tn ty (⟨#[107]⟩ : ByteArray) false (⟨#[]⟩ : ByteArray) 0 none 0 0 [] (some ⟨w5.heap.size, 0, none⟩) 2 2 [(⟨#[97]⟩ : ByteArray), (⟨#[98]⟩ : ByteArray)] none 0 0 [] none 0 0 [] none 0 0 [])) := ⟨(show ByteArray.size (⟨#[107]⟩ : ByteArray) ≤ maxLen by decide), (show ByteArray.size (⟨#[]⟩ : ByteArray) ≤ maxLen by decide), Rd.nil _, HN.out, (fun s hs => by simp at hs; rcases hs with rfl | rfl <;> decide), RowsN.nil _ _ _, (fun s hs => nomatch hs), RowsN.nil _ _ _, (fun s hs => nomatch hs), RowsN.nil _ _ _, (fun s hs => nomatch hs)⟩
            have HRK : Hid (RK w b7 tn ty (false) ((w5.alloc (.cells #[.string (⟨#[97]⟩ : ByteArray), .string (⟨#[98]⟩ : ByteArray)] 9)).setCell ⟨b7, 8, none⟩ (.slice (some ⟨w5.heap.size, 0, none⟩) 2 2))) := ⟨(RecV.mk 1 tn ty (⟨#[107]⟩ : ByteArray) false (⟨#[]⟩ : ByteArray) 0 none 0 0 [] (some ⟨w5.heap.size, 0, none⟩) 2 2 [(⟨#[97]⟩ : ByteArray), (⟨#[98]⟩ : ByteArray)] none 0 0 [] none 0 0 [] none 0 0 []), HRX.out, HBX.out, HAX.out, HTX.out, HYX.out, HSZ.out⟩
            have z8 : (w5.alloc (.cells #[.string (⟨#[97]⟩ : ByteArray), .string (⟨#[98]⟩ : ByteArray)] 9)).cell? ⟨b7, 8, none⟩ = some _ := HBA.out.cell 8
            have f8 : (w5.alloc (.cells #[.string (⟨#[97]⟩ : ByteArray), .string (⟨#[98]⟩ : ByteArray)] 9)).frozen? ⟨b7, 8, none⟩ = false := HBA.out.frozen 8
            clear HRX HBA HTA HYA HBX HTX HYX HAX HLT HN
            go_wp2
            go_meet
            case rel => exact ⟨false, by first | rfl | simp, HRK.out⟩
          · have HRX : Hid (rightRec (RecV.mk 1 tn ty (⟨#[107]⟩ : ByteArray) false (⟨#[]⟩ : ByteArray) 0 none 0 0 [] none 0 0 [] none 0 0 [] (some ⟨w5.heap.size + 1, 0, none⟩) 1 1 [(OpenV.mk tn ty 0 0 0 false (some ⟨w5.heap.size, 0, none⟩) 1 1 [(⟨#[122]⟩ : ByteArray)])] none 0 0 []) = false) := by
              show _ = _
              rw [right_parts]
              simp [emp_size, emp_yes, emp_no1, emp_no2, key_k, key_x, reads_ab, nodes_15, HT.out, fit_one openOk openLt noOpen 200 _ (by omega) (open_ok HT.out _ _ _)]
            have HBA : Hid (Blk ((w5.alloc (.cells #[.string (⟨#[122]⟩ : ByteArray)] 9)).alloc (.cells #[.int .u64 tn, .int .i64 ty, .int .u64 0, .int .u64 0, .int .i64 0, .bool false, .slice (some ⟨w5.heap.size, 0, none⟩) 1 1] 46)) b7 #[.int .i64 1, .int .u64 tn, .int .i64 ty, .string (⟨#[107]⟩ : ByteArray), .bool false, .string (⟨#[]⟩ : ByteArray), .int .u64 0, .slice none 0 0, .slice none 0 0, .slice none 0 0, .slice none 0 0, .slice none 0 0] 36) := (HB8.out.alloc _).alloc _
            have HTA : Hid (Blk ((w5.alloc (.cells #[.string (⟨#[122]⟩ : ByteArray)] 9)).alloc (.cells #[.int .u64 tn, .int .i64 ty, .int .u64 0, .int .u64 0, .int .i64 0, .bool false, .slice (some ⟨w5.heap.size, 0, none⟩) 1 1] 46)) w.heap.size #[.int .u64 tn, .int .i64 ty] 24) := (HT5.out.alloc _).alloc _
            have HYA : Hid (Below w.heap.size w ((w5.alloc (.cells #[.string (⟨#[122]⟩ : ByteArray)] 9)).alloc (.cells #[.int .u64 tn, .int .i64 ty, .int .u64 0, .int .u64 0, .int .i64 0, .bool false, .slice (some ⟨w5.heap.size, 0, none⟩) 1 1] 46))) := (HY5.out.alloc HY5.out.size _).alloc (by have := HY5.out.size; simp; omega) _
            have HBX : Hid (Blk (((w5.alloc (.cells #[.string (⟨#[122]⟩ : ByteArray)] 9)).alloc (.cells #[.int .u64 tn, .int .i64 ty, .int .u64 0, .int .u64 0, .int .i64 0, .bool false, .slice (some ⟨w5.heap.size, 0, none⟩) 1 1] 46)).setCell ⟨b7, 10, none⟩ (.slice (some ⟨w5.heap.size + 1, 0, none⟩) 1 1)) b7 #[.int .i64 1, .int .u64 tn, .int .i64 ty, .string (⟨#[107]⟩ : ByteArray), .bool false, .string (⟨#[]⟩ : ByteArray), .int .u64 0, .slice none 0 0, .slice none 0 0, .slice none 0 0, .slice (some ⟨w5.heap.size + 1, 0, none⟩) 1 1, .slice none 0 0] 36) := by show Blk _ _ _ _; have := HBA.out.set 10 (.slice (some ⟨w5.heap.size + 1, 0, none⟩) 1 1); simpa using this
            have HTX : Hid (Blk (((w5.alloc (.cells #[.string (⟨#[122]⟩ : ByteArray)] 9)).alloc (.cells #[.int .u64 tn, .int .i64 ty, .int .u64 0, .int .u64 0, .int .i64 0, .bool false, .slice (some ⟨w5.heap.size, 0, none⟩) 1 1] 46)).setCell ⟨b7, 10, none⟩ (.slice (some ⟨w5.heap.size + 1, 0, none⟩) 1 1)) w.heap.size #[.int .u64 tn, .int .i64 ty] 24) := HTA.out.setOther _ _ (by have := HSZ.out; omega)
            have HYX : Hid (Below w.heap.size w (((w5.alloc (.cells #[.string (⟨#[122]⟩ : ByteArray)] 9)).alloc (.cells #[.int .u64 tn, .int .i64 ty, .int .u64 0, .int .u64 0, .int .i64 0, .bool false, .slice (some ⟨w5.heap.size, 0, none⟩) 1 1] 46)).setCell ⟨b7, 10, none⟩ (.slice (some ⟨w5.heap.size + 1, 0, none⟩) 1 1))) := HYA.out.setCell (by have := HSZ.out; show _ ≤ b7; omega) _
            have HLT : Hid (b7 < w5.heap.size) := HB8.out.lt
            have HN0 : Hid (OwnV (w5.alloc (.cells #[.string (⟨#[122]⟩ : ByteArray)] 9)) w5.heap.size 9 (.slice (some ⟨w5.heap.size, 0, none⟩) 1 1) (sv [(⟨#[122]⟩ : ByteArray)])) := World.ownsRow_lit w5 #[.string (⟨#[122]⟩ : ByteArray)] 1 (Nat.le_refl _) (by simp [maxLen]) rfl
            have HN : Hid (Rd (((w5.alloc (.cells #[.string (⟨#[122]⟩ : ByteArray)] 9)).alloc (.cells #[.int .u64 tn, .int .i64 ty, .int .u64 0, .int .u64 0, .int .i64 0, .bool false, .slice (some ⟨w5.heap.size, 0, none⟩) 1 1] 46)).setCell ⟨b7, 10, none⟩ (.slice (some ⟨w5.heap.size + 1, 0, none⟩) 1 1)) (.slice (some ⟨w5.heap.size, 0, none⟩) 1 1) (sv [(⟨#[122]⟩ : ByteArray)])) := (OwnV.kept (HN0.out.below (below_allocR _)) (fun g hg => Below.heap_setCell _ _ _ _ (by simp [Value.ownBlock] at hg; have := HLT.out; show g ≠ b7; omega))).rd
            have HK : Hid (Blk ((w5.alloc (.cells #[.string (⟨#[122]⟩ : ByteArray)] 9)).alloc (.cells #[.int .u64 tn, .int .i64 ty, .int .u64 0, .int .u64 0, .int .i64 0, .bool false, .slice (some ⟨w5.heap.size, 0, none⟩) 1 1] 46)) (w5.heap.size + 1) #[.int .u64 tn, .int .i64 ty, .int .u64 0, .int .u64 0, .int .i64 0, .bool false, .slice (some ⟨w5.heap.size, 0, none⟩) 1 1] 46) := blk_two _ _ _ _ _
            have HK2 : Hid (Blk (((w5.alloc (.cells #[.string (⟨#[122]⟩ : ByteArray)] 9)).alloc (.cells #[.int .u64 tn, .int .i64 ty, .int .u64 0, .int .u64 0, .int .i64 0, .bool false, .slice (some ⟨w5.heap.size, 0, none⟩) 1 1] 46)).setCell ⟨b7, 10, none⟩ (.slice (some ⟨w5.heap.size + 1, 0, none⟩) 1 1)) (w5.heap.size + 1) #[.int .u64 tn, .int .i64 ty, .int .u64 0, .int .u64 0, .int .i64 0, .bool false, .slice (some ⟨w5.heap.size, 0, none⟩) 1 1] 46) := HK.out.setOther _ _ (by have := HLT.out; show w5.heap.size + 1 ≠ b7; omega)
            have HAX : Hid (RecV.At (((w5.alloc (.cells #[.string (⟨#[122]⟩ : ByteArray)] 9)).alloc (.cells #[.int .u64 tn, .int .i64 ty, .int .u64 0, .int .u64 0, .int .i64 0, .bool false, .slice (some ⟨w5.heap.size, 0, none⟩) 1 1] 46)).setCell ⟨b7, 10, none⟩ (.slice (some ⟨w5.heap.size + 1, 0, none⟩) 1 1)) (RecV.mk 1 tn ty (⟨#[107]⟩ : ByteArray) false (⟨#[]⟩ : ByteArray) 0 none 0 0 [] none 0 0 [] none 0 0 [] (some ⟨w5.heap.size + 1, 0, none⟩) 1 1 [(OpenV.mk tn ty 0 0 0 false (some ⟨w5.heap.size, 0, none⟩) 1 1 [(⟨#[122]⟩ : ByteArray)])] none 0 0 [])) := ⟨(show ByteArray.size (⟨#[107]⟩ : ByteArray) ≤ maxLen by decide), (show ByteArray.size (⟨#[]⟩ : ByteArray) ≤ maxLen by decide), Rd.nil _, Rd.nil _, (fun s hs => nomatch hs), RowsN.nil _ _ _, (fun s hs => nomatch hs), rowsN_one (x := (OpenV.mk tn ty 0 0 0 false (some ⟨w5.heap.size, 0, none⟩) 1 1 [(⟨#[122]⟩ : ByteArray)])) HK2.out, (fun s hs => by rw [List.mem_singleton] at hs; subst hs; exact ⟨HN.out, fun s hs => by rw [List.mem_singleton] at hs; subst hs; decide⟩), RowsN.nil _ _ _, (fun s hs => nomatch hs)⟩
            have HRK : Hid (RK w b7 tn ty (false) (((w5.alloc (.cells #[.string (⟨#[122]⟩ : ByteArray)] 9)).alloc (.cells #[.int .u64 tn, .int .i64 ty, .int .u64 0, .int .u64 0, .int .i64 0, .bool false, .slice (some ⟨w5.heap.size, 0, none⟩) 1 1] 46)).setCell ⟨b7, 10, none⟩ (.slice (some ⟨w5.heap.size + 1, 0, none⟩) 1 1))) := ⟨(RecV.mk 1 tn ty (⟨#[107]⟩ : ByteArray) false (⟨#[]⟩ : ByteArray) 0 none 0 0 [] none 0 0 [] none 0 0 [] (some ⟨w5.heap.size + 1, 0, none⟩) 1 1 [(OpenV.mk tn ty 0 0 0 false (some ⟨w5.heap.size, 0, none⟩) 1 1 [(⟨#[122]⟩ : ByteArray)])] none 0 0 []), HRX.out, HBX.out, HAX.out, HTX.out, HYX.out, HSZ.out⟩
            have z10 : ((w5.alloc (.cells #[.string (⟨#[122]⟩ : ByteArray)] 9)).alloc (.cells #[.int .u64 tn, .int .i64 ty, .int .u64 0, .int .u64 0, .int .i64 0, .bool false, .slice (some ⟨w5.heap.size, 0, none⟩) 1 1] 46)).cell? ⟨b7, 10, none⟩ = some _ := HBA.out.cell 10
            have f10 : ((w5.alloc (.cells #[.string (⟨#[122]⟩ : ByteArray)] 9)).alloc (.cells #[.int .u64 tn, .int .i64 ty, .int .u64 0, .int .u64 0, .int .i64 0, .bool false, .slice (some ⟨w5.heap.size, 0, none⟩) 1 1] 46)).frozen? ⟨b7, 10, none⟩ = false := HBA.out.frozen 10
            clear HRX HBA HTA HYA HBX HTX HYX HAX HLT HN HN0 HK HK2
            have t0 : w5.cell? ⟨w.heap.size, 0, none⟩ = some (.int .u64 tn) := HT5.out.cell 0
            have t1 : w5.cell? ⟨w.heap.size, 1, none⟩ = some (.int .i64 ty) := HT5.out.cell 1
            go_wp2
            go_meet
            case rel => exact ⟨false, by first | rfl | simp, HRK.out⟩
          · have HRX : Hid (rightRec (RecV.mk 1 tn ty (⟨#[107]⟩ : ByteArray) false (⟨#[]⟩ : ByteArray) 0 none 0 0 [] none 0 0 [] none 0 0 [] none 0 0 [] (some ⟨w5.heap.size, 0, none⟩) 1 1 [(DoneV.mk tn ty none 0 0 [])]) = false) := by
              show _ = _
              rw [right_parts]
              simp [emp_size, emp_yes, emp_no1, emp_no2, key_k, key_x, reads_ab, nodes_15, HT.out, fit_one doneOk doneLt noDone 200 _ (by omega) (done_ok HT.out _ _ _)]
            have HBA : Hid (Blk (w5.alloc (.cells #[.int .u64 tn, .int .i64 ty, .slice none 0 0] 48)) b7 #[.int .i64 1, .int .u64 tn, .int .i64 ty, .string (⟨#[107]⟩ : ByteArray), .bool false, .string (⟨#[]⟩ : ByteArray), .int .u64 0, .slice none 0 0, .slice none 0 0, .slice none 0 0, .slice none 0 0, .slice none 0 0] 36) := HB8.out.alloc _
            have HTA : Hid (Blk (w5.alloc (.cells #[.int .u64 tn, .int .i64 ty, .slice none 0 0] 48)) w.heap.size #[.int .u64 tn, .int .i64 ty] 24) := HT5.out.alloc _
            have HYA : Hid (Below w.heap.size w (w5.alloc (.cells #[.int .u64 tn, .int .i64 ty, .slice none 0 0] 48))) := HY5.out.alloc HY5.out.size _
            have HBX : Hid (Blk ((w5.alloc (.cells #[.int .u64 tn, .int .i64 ty, .slice none 0 0] 48)).setCell ⟨b7, 11, none⟩ (.slice (some ⟨w5.heap.size, 0, none⟩) 1 1)) b7 #[.int .i64 1, .int .u64 tn, .int .i64 ty, .string (⟨#[107]⟩ : ByteArray), .bool false, .string (⟨#[]⟩ : ByteArray), .int .u64 0, .slice none 0 0, .slice none 0 0, .slice none 0 0, .slice none 0 0, .slice (some ⟨w5.heap.size, 0, none⟩) 1 1] 36) := by show Blk _ _ _ _; have := HBA.out.set 11 (.slice (some ⟨w5.heap.size, 0, none⟩) 1 1); simpa using this
            have HTX : Hid (Blk ((w5.alloc (.cells #[.int .u64 tn, .int .i64 ty, .slice none 0 0] 48)).setCell ⟨b7, 11, none⟩ (.slice (some ⟨w5.heap.size, 0, none⟩) 1 1)) w.heap.size #[.int .u64 tn, .int .i64 ty] 24) := HTA.out.setOther _ _ (by have := HSZ.out; omega)
            have HYX : Hid (Below w.heap.size w ((w5.alloc (.cells #[.int .u64 tn, .int .i64 ty, .slice none 0 0] 48)).setCell ⟨b7, 11, none⟩ (.slice (some ⟨w5.heap.size, 0, none⟩) 1 1))) := HYA.out.setCell (by have := HSZ.out; show _ ≤ b7; omega) _
            have HLT : Hid (b7 < w5.heap.size) := HB8.out.lt
            have HK : Hid (Blk (w5.alloc (.cells #[.int .u64 tn, .int .i64 ty, .slice none 0 0] 48)) w5.heap.size #[.int .u64 tn, .int .i64 ty, .slice none 0 0] 48) := Blk.new _ _ _
            have HK2 : Hid (Blk ((w5.alloc (.cells #[.int .u64 tn, .int .i64 ty, .slice none 0 0] 48)).setCell ⟨b7, 11, none⟩ (.slice (some ⟨w5.heap.size, 0, none⟩) 1 1)) w5.heap.size #[.int .u64 tn, .int .i64 ty, .slice none 0 0] 48) := HK.out.setOther _ _ (by have := HLT.out; show w5.heap.size ≠ b7; omega)
            have HAX : Hid (RecV.At ((w5.alloc (.cells #[.int .u64 tn, .int .i64 ty, .slice none 0 0] 48)).setCell ⟨b7, 11, none⟩ (.slice (some ⟨w5.heap.size, 0, none⟩) 1 1)) (RecV.mk 1 tn ty (⟨#[107]⟩ : ByteArray) false (⟨#[]⟩ : ByteArray) 0 none 0 0 [] none 0 0 [] none 0 0 [] none 0 0 [] (some ⟨w5.heap.size, 0, none⟩) 1 1 [(DoneV.mk tn ty none 0 0 [])])) := ⟨(show ByteArray.size (⟨#[107]⟩ : ByteArray) ≤ maxLen by decide), (show ByteArray.size (⟨#[]⟩ : ByteArray) ≤ maxLen by decide), Rd.nil _, Rd.nil _, (fun s hs => nomatch hs), RowsN.nil _ _ _, (fun s hs => nomatch hs), RowsN.nil _ _ _, (fun s hs => nomatch hs), rowsN_one (x := (DoneV.mk tn ty none 0 0 [])) HK2.out, (fun s hs => by rw [List.mem_singleton] at hs; subst hs; exact ⟨Rd.nil _⟩)⟩
            have HRK : Hid (RK w b7 tn ty (false) ((w5.alloc (.cells #[.int .u64 tn, .int .i64 ty, .slice none 0 0] 48)).setCell ⟨b7, 11, none⟩ (.slice (some ⟨w5.heap.size, 0, none⟩) 1 1))) := ⟨(RecV.mk 1 tn ty (⟨#[107]⟩ : ByteArray) false (⟨#[]⟩ : ByteArray) 0 none 0 0 [] none 0 0 [] none 0 0 [] none 0 0 [] (some ⟨w5.heap.size, 0, none⟩) 1 1 [(DoneV.mk tn ty none 0 0 [])]), HRX.out, HBX.out, HAX.out, HTX.out, HYX.out, HSZ.out⟩
            have z11 : (w5.alloc (.cells #[.int .u64 tn, .int .i64 ty, .slice none 0 0] 48)).cell? ⟨b7, 11, none⟩ = some _ := HBA.out.cell 11
            have f11 : (w5.alloc (.cells #[.int .u64 tn, .int .i64 ty, .slice none 0 0] 48)).frozen? ⟨b7, 11, none⟩ = false := HBA.out.frozen 11
            clear HRX HBA HTA HYA HBX HTX HYX HAX HLT HK HK2
            have t0 : w5.cell? ⟨w.heap.size, 0, none⟩ = some (.int .u64 tn) := HT5.out.cell 0
            have t1 : w5.cell? ⟨w.heap.size, 1, none⟩ = some (.int .i64 ty) := HT5.out.cell 1
            go_wp2
            go_meet
            case rel => exact ⟨false, by first | rfl | simp, HRK.out⟩
          · have HRX : Hid (rightRec (RecV.mk 1 tn ty (⟨#[107]⟩ : ByteArray) false (⟨#[120]⟩ : ByteArray) 0 none 0 0 [] none 0 0 [] none 0 0 [] none 0 0 [] none 0 0 []) = false) := by
              show _ = _
              rw [right_parts]
              simp [emp_size, emp_yes, emp_no1, emp_no2, key_k, key_x, reads_ab, nodes_15, HT.out]
            have hsz : w5.heap.size ≤ w5.heap.size := Nat.le_refl _
            have HBA : Hid (Blk w5 b7 #[.int .i64 1, .int .u64 tn, .int .i64 ty, .string (⟨#[107]⟩ : ByteArray), .bool false, .string (⟨#[]⟩ : ByteArray), .int .u64 0, .slice none 0 0, .slice none 0 0, .slice none 0 0, .slice none 0 0, .slice none 0 0] 36) := HB8
            have HTA := HT5
            have HYA := HY5
            have HBX : Hid (Blk (w5.setCell ⟨b7, 5, none⟩ (.string (⟨#[120]⟩ : ByteArray))) b7 #[.int .i64 1, .int .u64 tn, .int .i64 ty, .string (⟨#[107]⟩ : ByteArray), .bool false, .string (⟨#[120]⟩ : ByteArray), .int .u64 0, .slice none 0 0, .slice none 0 0, .slice none 0 0, .slice none 0 0, .slice none 0 0] 36) := by show Blk _ _ _ _; have := HBA.out.set 5 (.string (⟨#[120]⟩ : ByteArray)); simpa using this
            have HTX : Hid (Blk (w5.setCell ⟨b7, 5, none⟩ (.string (⟨#[120]⟩ : ByteArray))) w.heap.size #[.int .u64 tn, .int .i64 ty] 24) := HTA.out.setOther _ _ (by have := HSZ.out; omega)
            have HYX : Hid (Below w.heap.size w (w5.setCell ⟨b7, 5, none⟩ (.string (⟨#[120]⟩ : ByteArray)))) := HYA.out.setCell (by have := HSZ.out; show _ ≤ b7; omega) _
            have HLT : Hid (b7 < w5.heap.size) := HB8.out.lt
            have HAX : Hid (RecV.At (w5.setCell ⟨b7, 5, none⟩ (.string (⟨#[120]⟩ : ByteArray))) (RecV.mk 1 tn ty (⟨#[107]⟩ : ByteArray) false (⟨#[120]⟩ : ByteArray) 0 none 0 0 [] none 0 0 [] none 0 0 [] none 0 0 [] none 0 0 [])) := ⟨(show ByteArray.size (⟨#[107]⟩ : ByteArray) ≤ maxLen by decide), (show ByteArray.size (⟨#[120]⟩ : ByteArray) ≤ maxLen by decide), Rd.nil _, Rd.nil _, (fun s hs => nomatch hs), RowsN.nil _ _ _, (fun s hs => nomatch hs), RowsN.nil _ _ _, (fun s hs => nomatch hs), RowsN.nil _ _ _, (fun s hs => nomatch hs)⟩
            have HRK : Hid (RK w b7 tn ty (false) (w5.setCell ⟨b7, 5, none⟩ (.string (⟨#[120]⟩ : ByteArray)))) := ⟨(RecV.mk 1 tn ty (⟨#[107]⟩ : ByteArray) false (⟨#[120]⟩ : ByteArray) 0 none 0 0 [] none 0 0 [] none 0 0 [] none 0 0 [] none 0 0 []), HRX.out, HBX.out, HAX.out, HTX.out, HYX.out, HSZ.out⟩
            have z5 : w5.cell? ⟨b7, 5, none⟩ = some _ := HBA.out.cell 5
            have f5 : w5.frozen? ⟨b7, 5, none⟩ = false := HBA.out.frozen 5
            clear HRX HBA HTA HYA HBX HTX HYX HAX HLT hsz
            go_wp2
            go_meet
            case rel => exact ⟨false, by first | rfl | simp, HRK.out⟩
        case rest =>
        obtain ⟨b, rfl, hrk⟩ := hcut
        rename World => w6
        obtain ⟨x, hx, hb, ha, ht, hy, hlt⟩ := hrk
        have HXR : Hid (rightRec x = b) := hx
        have HB6 : Hid (Blk w6 b7 #[.int .i64 x.kind, .int .u64 x.num, .int .i64 x.node, .string x.key, .bool x.was, .string x.old, .int .u64 x.prev, .slice x.na x.nn x.nc, .slice x.ra x.rn x.rc, .slice x.ga x.gn x.gc, .slice x.oa x.om x.oc, .slice x.da x.dn x.dc] 36) := hb
        have HA6 : Hid (x.At w6) := ha
        have HY6 : Hid (Below w.heap.size w w6) := hy
        have t0 : w6.cell? ⟨w.heap.size, 0, none⟩ = some (.int .u64 tn) := Blk.cell ht 0
        have t1 : w6.cell? ⟨w.heap.size, 1, none⟩ = some (.int .i64 ty) := Blk.cell ht 1
        clear hx hb ha ht hy hlt HB8 HT5 HY5
        have HX7 : Hid (Below w6.heap.size w6 ((w6.alloc (.cells #[.string (⟨#[122]⟩ : ByteArray)] 9)).alloc (.cells #[.int .u64 tn, .int .i64 ty, .int .u64 0, .int .u64 0, .int .i64 0, .bool false, .slice (some ⟨w6.heap.size, 0, none⟩) 1 1] 46))) := (below_allocR _).trans ((below_allocR _).mono (by simp))
        have HN7 : Hid (Rd ((w6.alloc (.cells #[.string (⟨#[122]⟩ : ByteArray)] 9)).alloc (.cells #[.int .u64 tn, .int .i64 ty, .int .u64 0, .int .u64 0, .int .i64 0, .bool false, .slice (some ⟨w6.heap.size, 0, none⟩) 1 1] 46)) (.slice (some ⟨w6.heap.size, 0, none⟩) 1 1) (sv [(⟨#[122]⟩ : ByteArray)])) := (OwnV.below (World.ownsRow_lit w6 #[.string (⟨#[122]⟩ : ByteArray)] 1 (Nat.le_refl _) (by simp [maxLen]) rfl : OwnV (w6.alloc (.cells #[.string (⟨#[122]⟩ : ByteArray)] 9)) w6.heap.size 9 (.slice (some ⟨w6.heap.size, 0, none⟩) 1 1) (sv [(⟨#[122]⟩ : ByteArray)])) (below_allocR _)).rd
        have HO7 : Hid (Blk ((w6.alloc (.cells #[.string (⟨#[122]⟩ : ByteArray)] 9)).alloc (.cells #[.int .u64 tn, .int .i64 ty, .int .u64 0, .int .u64 0, .int .i64 0, .bool false, .slice (some ⟨w6.heap.size, 0, none⟩) 1 1] 46)) (w6.heap.size + 1) #[.int .u64 tn, .int .i64 ty, .int .u64 0, .int .u64 0, .int .i64 0, .bool false, .slice (some ⟨w6.heap.size, 0, none⟩) 1 1] 46) := blk_two _ _ _ _ _
        have HB7 : Hid (Blk ((w6.alloc (.cells #[.string (⟨#[122]⟩ : ByteArray)] 9)).alloc (.cells #[.int .u64 tn, .int .i64 ty, .int .u64 0, .int .u64 0, .int .i64 0, .bool false, .slice (some ⟨w6.heap.size, 0, none⟩) 1 1] 46)) b7 #[.int .i64 x.kind, .int .u64 x.num, .int .i64 x.node, .string x.key, .bool x.was, .string x.old, .int .u64 x.prev, .slice x.na x.nn x.nc, .slice x.ra x.rn x.rc, .slice x.ga x.gn x.gc, .slice x.oa x.om x.oc, .slice x.da x.dn x.dc] 36) := Blk.of HB6.out (HX7.out.block _ HB6.out.lt)
        have HA7 : Hid (x.At ((w6.alloc (.cells #[.string (⟨#[122]⟩ : ByteArray)] 9)).alloc (.cells #[.int .u64 tn, .int .i64 ty, .int .u64 0, .int .u64 0, .int .i64 0, .bool false, .slice (some ⟨w6.heap.size, 0, none⟩) 1 1] 46))) := HA6.out.below HX7.out
        have HY7 : Hid (Below w.heap.size w ((w6.alloc (.cells #[.string (⟨#[122]⟩ : ByteArray)] 9)).alloc (.cells #[.int .u64 tn, .int .i64 ty, .int .u64 0, .int .u64 0, .int .i64 0, .bool false, .slice (some ⟨w6.heap.size, 0, none⟩) 1 1] 46))) := ext_trans HY6.out HX7.out
        have HL7 : Hid (b7 < w6.heap.size) := HB6.out.lt
        go_upto_region 39 with fail
        generalize ((w6.alloc (.cells #[.string (⟨#[122]⟩ : ByteArray)] 9)).alloc (.cells #[.int .u64 tn, .int .i64 ty, .int .u64 0, .int .u64 0, .int .i64 0, .bool false, .slice (some ⟨w6.heap.size, 0, none⟩) 1 1] 46)) = w7 at *
        clear t0 t1 HB6 HA6 HY6 HX7
        obtain ⟨r7, hr7⟩ : ∃ r, w6.heap.size = r := ⟨_, rfl⟩
        rw [hr7] at HN7 HO7 HL7 ⊢
        clear hr7
        have HCL : Hid (∀ W, Below w7.heap.size w7 W → Calls Try.prog 19 #[.agg #[.int .u64 tn, .int .i64 ty, .int .u64 0, .int .u64 0, .int .i64 0, .bool false, .slice (some ⟨r7, 0, none⟩) 1 1]] W fun e w' => ∃ a n c, e = .returned (.agg #[.int .u64 tn, .int .i64 ty, .int .u64 0, .int .u64 0, .int .i64 0, .bool false, .slice a n c]) ∧ OwnV w' (W.heap.size + 2) 9 (.slice a n c) (sv [(⟨#[122]⟩ : ByteArray)]) ∧ Below W.heap.size W w') := fun W hb => openClone_any (OpenV.mk tn ty 0 0 0 false (some ⟨r7, 0, none⟩) 1 1 [(⟨#[122]⟩ : ByteArray)]) W ⟨HN7.out.below hb, fun s hs => by rw [List.mem_singleton] at hs; subst hs; decide⟩ (by simp)
        have o0 : w7.cell? ⟨r7 + 1, 0, none⟩ = some _ := HO7.out.cell 0
        have o1 : w7.cell? ⟨r7 + 1, 1, none⟩ = some _ := HO7.out.cell 1
        have o2 : w7.cell? ⟨r7 + 1, 2, none⟩ = some _ := HO7.out.cell 2
        have o3 : w7.cell? ⟨r7 + 1, 3, none⟩ = some _ := HO7.out.cell 3
        have o4 : w7.cell? ⟨r7 + 1, 4, none⟩ = some _ := HO7.out.cell 4
        have o5 : w7.cell? ⟨r7 + 1, 5, none⟩ = some _ := HO7.out.cell 5
        have o6 : w7.cell? ⟨r7 + 1, 6, none⟩ = some _ := HO7.out.cell 6
        go_wp2_with fail
        refine (HCL.out _ (Below.refl _ _)).mono ?_
        rintro e w8 ⟨a8, n8, c8, rfl, ho, y⟩
        clear o0 o1 o2 o3 o4 o5 o6
        obtain ⟨g, cap, hv, hg, hcs, cur8, hbk⟩ := own_set1 (i := 0) ho (by simp) (⟨#[121]⟩ : ByteArray)
        obtain ⟨h1, h2, h3⟩ : a8 = some ⟨g, 0, none⟩ ∧ n8 = 1 ∧ c8 = cap := by cases hv; exact ⟨rfl, rfl, rfl⟩
        subst h1 h2 h3
        have HGB : Hid (w7.heap.size ≤ g) := by show _ ≤ _; omega
        obtain ⟨u8, hu8⟩ := Option.isSome_iff_exists.1 hcs
        have HX8 : Hid (Below w7.heap.size w7 w8) := y
        clear ho y hcs hg hv
        have HX9 : Hid (Below w7.heap.size w7 ((w8.alloc (.cells #[.int .u64 tn, .int .i64 ty, .int .u64 0, .int .u64 0, .int .i64 0, .bool false, .slice (some ⟨g, 0, none⟩) 1 c8] 46)).setCell ⟨g, 0, none⟩ (.string (⟨#[121]⟩ : ByteArray)))) := (HX8.out.alloc HX8.out.size _).setCell (by show _ ≤ g; exact HGB.out) _
        have e1 : (w8.alloc (.cells #[.int .u64 tn, .int .i64 ty, .int .u64 0, .int .u64 0, .int .i64 0, .bool false, .slice (some ⟨g, 0, none⟩) 1 c8] 46)).cell? ⟨w8.heap.size, 6, none⟩ = some (.slice (some ⟨g, 0, none⟩) 1 c8) := (Blk.new w8 #[.int .u64 tn, .int .i64 ty, .int .u64 0, .int .u64 0, .int .i64 0, .bool false, .slice (some ⟨g, 0, none⟩) 1 c8] 46).cell 6
        have e2 : (w8.alloc (.cells #[.int .u64 tn, .int .i64 ty, .int .u64 0, .int .u64 0, .int .i64 0, .bool false, .slice (some ⟨g, 0, none⟩) 1 c8] 46)).cell? ⟨g, 0, none⟩ = some u8 := (Below.cell (below_allocR (W := w8) _) (World.block_lt_of_cell? w8 _ hu8)).trans hu8
        have e3 : (w8.alloc (.cells #[.int .u64 tn, .int .i64 ty, .int .u64 0, .int .u64 0, .int .i64 0, .bool false, .slice (some ⟨g, 0, none⟩) 1 c8] 46)).frozen? ⟨g, 0, none⟩ = false := (hbk.alloc _).frozen 0
        clear hu8 hbk
        go_upto_region 41 with fail
        generalize ((w8.alloc (.cells #[.int .u64 tn, .int .i64 ty, .int .u64 0, .int .u64 0, .int .i64 0, .bool false, .slice (some ⟨g, 0, none⟩) 1 c8] 46)).setCell ⟨g, 0, none⟩ (.string (⟨#[121]⟩ : ByteArray))) = w9 at *
        clear e1 e2 e3 HX8 HGB
        have HB9 : Hid (Blk w9 b7 #[.int .i64 x.kind, .int .u64 x.num, .int .i64 x.node, .string x.key, .bool x.was, .string x.old, .int .u64 x.prev, .slice x.na x.nn x.nc, .slice x.ra x.rn x.rc, .slice x.ga x.gn x.gc, .slice x.oa x.om x.oc, .slice x.da x.dn x.dc] 36) := Blk.of HB7.out (HX9.out.block _ HB7.out.lt)
        have HO9 : Hid (Blk w9 (r7 + 1) #[.int .u64 tn, .int .i64 ty, .int .u64 0, .int .u64 0, .int .i64 0, .bool false, .slice (some ⟨r7, 0, none⟩) 1 1] 46) := Blk.of HO7.out (HX9.out.block _ HO7.out.lt)
        have HA9 : Hid (x.At w9) := HA7.out.below HX9.out
        have HN9 : Hid (Rd w9 (.slice (some ⟨r7, 0, none⟩) 1 1) (sv [(⟨#[122]⟩ : ByteArray)])) := HN7.out.below HX9.out
        have HY9 : Hid (Below w.heap.size w w9) := ext_trans HY7.out HX9.out
        clear HB7 HO7 HA7 HN7 HY7 HX9
        refine wp_region_ext (by kernel_rfl) ?_
        have HB0 : Hid (Blk w9.drew b7 #[.int .i64 x.kind, .int .u64 x.num, .int .i64 x.node, .string x.key, .bool x.was, .string x.old, .int .u64 x.prev, .slice x.na x.nn x.nc, .slice x.ra x.rn x.rc, .slice x.ga x.gn x.gc, .slice x.oa x.om x.oc, .slice x.da x.dn x.dc] 36) := HB9.out
        have HO0 : Hid (Blk w9.drew (r7 + 1) #[.int .u64 tn, .int .i64 ty, .int .u64 0, .int .u64 0, .int .i64 0, .bool false, .slice (some ⟨r7, 0, none⟩) 1 1] 46) := HO9.out
        have HN0 : Hid (Rd w9.drew (.slice (some ⟨r7, 0, none⟩) 1 1) (sv [(⟨#[122]⟩ : ByteArray)])) := HN9.out.below (Below.drew (Below.refl _ _))
        have HA0 : Hid (x.At w9.drew) := HA9.out.below (Below.drew (Below.refl _ _))
        have HY0 : Hid (Below w.heap.size w w9.drew) := Below.drew HY9.out
        have HE0 : Hid (Below w7.heap.size w7 w7) := Below.refl _ _
        clear HB9 HO9 HN9 HA9 HY9 HE0
        haveI nA := cls_ext w9.drew
        have q0 := cellX (W0 := w9.drew) (show (w9.drew).cell? ⟨b7, 0, none⟩ = some (.int .i64 x.kind) from HB0.out.cell 0)
        have q1 := cellX (W0 := w9.drew) (show (w9.drew).cell? ⟨b7, 1, none⟩ = some (.int .u64 x.num) from HB0.out.cell 1)
        have q2 := cellX (W0 := w9.drew) (show (w9.drew).cell? ⟨b7, 2, none⟩ = some (.int .i64 x.node) from HB0.out.cell 2)
        have q3 := cellX (W0 := w9.drew) (show (w9.drew).cell? ⟨b7, 3, none⟩ = some (.string x.key) from HB0.out.cell 3)
        have q4 := cellX (W0 := w9.drew) (show (w9.drew).cell? ⟨b7, 4, none⟩ = some (.bool x.was) from HB0.out.cell 4)
        have q5 := cellX (W0 := w9.drew) (show (w9.drew).cell? ⟨b7, 5, none⟩ = some (.string x.old) from HB0.out.cell 5)
        have q6 := cellX (W0 := w9.drew) (show (w9.drew).cell? ⟨b7, 6, none⟩ = some (.int .u64 x.prev) from HB0.out.cell 6)
        have q7 := cellX (W0 := w9.drew) (show (w9.drew).cell? ⟨b7, 7, none⟩ = some (.slice x.na x.nn x.nc) from HB0.out.cell 7)
        have q8 := cellX (W0 := w9.drew) (show (w9.drew).cell? ⟨b7, 8, none⟩ = some (.slice x.ra x.rn x.rc) from HB0.out.cell 8)
        have q9 := cellX (W0 := w9.drew) (show (w9.drew).cell? ⟨b7, 9, none⟩ = some (.slice x.ga x.gn x.gc) from HB0.out.cell 9)
        have q10 := cellX (W0 := w9.drew) (show (w9.drew).cell? ⟨b7, 10, none⟩ = some (.slice x.oa x.om x.oc) from HB0.out.cell 10)
        have q11 := cellX (W0 := w9.drew) (show (w9.drew).cell? ⟨b7, 11, none⟩ = some (.slice x.da x.dn x.dc) from HB0.out.cell 11)
        have p0 := cellX (W0 := w9.drew) (show (w9.drew).cell? ⟨r7 + 1, 0, none⟩ = some _ from HO0.out.cell 0)
        have p1 := cellX (W0 := w9.drew) (show (w9.drew).cell? ⟨r7 + 1, 1, none⟩ = some _ from HO0.out.cell 1)
        have p2 := cellX (W0 := w9.drew) (show (w9.drew).cell? ⟨r7 + 1, 2, none⟩ = some _ from HO0.out.cell 2)
        have p3 := cellX (W0 := w9.drew) (show (w9.drew).cell? ⟨r7 + 1, 3, none⟩ = some _ from HO0.out.cell 3)
        have p4 := cellX (W0 := w9.drew) (show (w9.drew).cell? ⟨r7 + 1, 4, none⟩ = some _ from HO0.out.cell 4)
        have p5 := cellX (W0 := w9.drew) (show (w9.drew).cell? ⟨r7 + 1, 5, none⟩ = some _ from HO0.out.cell 5)
        have p6 := cellX (W0 := w9.drew) (show (w9.drew).cell? ⟨r7 + 1, 6, none⟩ = some _ from HO0.out.cell 6)
        have pz := cellX (W0 := w9.drew) (show (w9.drew).cell? ⟨r7, 0, none⟩ = some (.string (⟨#[122]⟩ : ByteArray)) from by have := HN0.out.at.2.2.2.str (j := 0) rfl (by simp); simpa [Addr.add] using this)
        refine wpAnyH_seg (by kernel_rfl) (fun _ _ _ h => h) [0, 2] 16 _ _ _ (Ext.refl _) (by kernel_rfl) ?_
        simp only [opsAt, List.getElem?_toArray, List.getElem?_cons_zero, List.getElem?_cons_succ, List.cons_append, List.nil_append]
        repeat (go_big_quiet_step (fail))
        refine wpQuiet_nil ?_
        clear nA pz q0 q1 q2 q3 q4 q5 q6 q7 q8 q9 q10 q11 p0 p1 p2 p3 p4 p5 p6
        have HRR : Hid (Calls Try.prog 18 #[.agg #[.int .i64 x.kind, .int .u64 x.num, .int .i64 x.node, .string x.key, .bool x.was, .string x.old, .int .u64 x.prev, .slice x.na x.nn x.nc, .slice x.ra x.rn x.rc, .slice x.ga x.gn x.gc, .slice x.oa x.om x.oc, .slice x.da x.dn x.dc]] w9.drew fun e w' => e = .returned (.bool b) ∧ Below w9.drew.heap.size w9.drew w') := by have := recRight_any x w9.drew HA0.out; rw [HXR.out] at this; exact this
        refine wpAnyH_callE (i := 1) (fuel := 15) 88 rfl (by kernel_rfl) rfl (Ext.refl _) (by kernel_rfl) (f := 18) (args := #[.agg #[.int .i64 x.kind, .int .u64 x.num, .int .i64 x.node, .string x.key, .bool x.was, .string x.old, .int .u64 x.prev, .slice x.na x.nn x.nc, .slice x.ra x.rn x.rc, .slice x.ga x.gn x.gc, .slice x.oa x.om x.oc, .slice x.da x.dn x.dc]]) (by kernel_rfl) HRR.out ?_
        rintro e x1 ⟨rfl, y⟩
        refine ⟨_, rfl, y, ?_⟩
        clear HRR
        have HB1 : Hid (Blk x1 b7 #[.int .i64 x.kind, .int .u64 x.num, .int .i64 x.node, .string x.key, .bool x.was, .string x.old, .int .u64 x.prev, .slice x.na x.nn x.nc, .slice x.ra x.rn x.rc, .slice x.ga x.gn x.gc, .slice x.oa x.om x.oc, .slice x.da x.dn x.dc] 36) := Blk.of HB0.out (y.block _ HB0.out.lt)
        have HO1 : Hid (Blk x1 (r7 + 1) #[.int .u64 tn, .int .i64 ty, .int .u64 0, .int .u64 0, .int .i64 0, .bool false, .slice (some ⟨r7, 0, none⟩) 1 1] 46) := Blk.of HO0.out (y.block _ HO0.out.lt)
        have HN1 : Hid (Rd x1 (.slice (some ⟨r7, 0, none⟩) 1 1) (sv [(⟨#[122]⟩ : ByteArray)])) := HN0.out.below y
        have HA1 : Hid (x.At x1) := HA0.out.below y
        have HY1 : Hid (Below w.heap.size w x1) := ext_trans HY0.out y
        clear HB0 HO0 HN0 HA0 HY0 y
        simp only [Act.put, List.setIfInBounds_toArray, List.set_cons_succ, List.set_cons_zero]
        haveI nA := cls_ext x1
        have q0 := cellX (W0 := x1) (show (x1).cell? ⟨b7, 0, none⟩ = some (.int .i64 x.kind) from HB1.out.cell 0)
        have q1 := cellX (W0 := x1) (show (x1).cell? ⟨b7, 1, none⟩ = some (.int .u64 x.num) from HB1.out.cell 1)
        have q2 := cellX (W0 := x1) (show (x1).cell? ⟨b7, 2, none⟩ = some (.int .i64 x.node) from HB1.out.cell 2)
        have q3 := cellX (W0 := x1) (show (x1).cell? ⟨b7, 3, none⟩ = some (.string x.key) from HB1.out.cell 3)
        have q4 := cellX (W0 := x1) (show (x1).cell? ⟨b7, 4, none⟩ = some (.bool x.was) from HB1.out.cell 4)
        have q5 := cellX (W0 := x1) (show (x1).cell? ⟨b7, 5, none⟩ = some (.string x.old) from HB1.out.cell 5)
        have q6 := cellX (W0 := x1) (show (x1).cell? ⟨b7, 6, none⟩ = some (.int .u64 x.prev) from HB1.out.cell 6)
        have q7 := cellX (W0 := x1) (show (x1).cell? ⟨b7, 7, none⟩ = some (.slice x.na x.nn x.nc) from HB1.out.cell 7)
        have q8 := cellX (W0 := x1) (show (x1).cell? ⟨b7, 8, none⟩ = some (.slice x.ra x.rn x.rc) from HB1.out.cell 8)
        have q9 := cellX (W0 := x1) (show (x1).cell? ⟨b7, 9, none⟩ = some (.slice x.ga x.gn x.gc) from HB1.out.cell 9)
        have q10 := cellX (W0 := x1) (show (x1).cell? ⟨b7, 10, none⟩ = some (.slice x.oa x.om x.oc) from HB1.out.cell 10)
        have q11 := cellX (W0 := x1) (show (x1).cell? ⟨b7, 11, none⟩ = some (.slice x.da x.dn x.dc) from HB1.out.cell 11)
        have p0 := cellX (W0 := x1) (show (x1).cell? ⟨r7 + 1, 0, none⟩ = some _ from HO1.out.cell 0)
        have p1 := cellX (W0 := x1) (show (x1).cell? ⟨r7 + 1, 1, none⟩ = some _ from HO1.out.cell 1)
        have p2 := cellX (W0 := x1) (show (x1).cell? ⟨r7 + 1, 2, none⟩ = some _ from HO1.out.cell 2)
        have p3 := cellX (W0 := x1) (show (x1).cell? ⟨r7 + 1, 3, none⟩ = some _ from HO1.out.cell 3)
        have p4 := cellX (W0 := x1) (show (x1).cell? ⟨r7 + 1, 4, none⟩ = some _ from HO1.out.cell 4)
        have p5 := cellX (W0 := x1) (show (x1).cell? ⟨r7 + 1, 5, none⟩ = some _ from HO1.out.cell 5)
        have p6 := cellX (W0 := x1) (show (x1).cell? ⟨r7 + 1, 6, none⟩ = some _ from HO1.out.cell 6)
        have pz := cellX (W0 := x1) (show (x1).cell? ⟨r7, 0, none⟩ = some (.string (⟨#[122]⟩ : ByteArray)) from by have := HN1.out.at.2.2.2.str (j := 0) rfl (by simp); simpa [Addr.add] using this)
        refine wpAnyH_seg (by kernel_rfl) (fun _ _ _ h => h) [3, 4, 5, 6, 7, 8, 9, 10, 11, 12, 13] 4 _ _ _ (Ext.refl _) (by kernel_rfl) ?_
        simp only [opsAt, List.getElem?_toArray, List.getElem?_cons_zero, List.getElem?_cons_succ, List.cons_append, List.nil_append]
        repeat (go_big_quiet_step (fail))
        refine wpQuiet_nil ?_
        clear nA pz q0 q1 q2 q3 q4 q5 q6 q7 q8 q9 q10 q11 p0 p1 p2 p3 p4 p5 p6
        have HC2 : Hid (Calls Try.prog 19 #[.agg #[.int .u64 tn, .int .i64 ty, .int .u64 0, .int .u64 0, .int .i64 0, .bool false, .slice (some ⟨r7, 0, none⟩) 1 1]] x1 fun e w' => ∃ a n c, e = .returned (.agg #[.int .u64 tn, .int .i64 ty, .int .u64 0, .int .u64 0, .int .i64 0, .bool false, .slice a n c]) ∧ OwnV w' (x1.heap.size + 2) 9 (.slice a n c) (sv [(⟨#[122]⟩ : ByteArray)]) ∧ Below x1.heap.size x1 w') := openClone_any (OpenV.mk tn ty 0 0 0 false (some ⟨r7, 0, none⟩) 1 1 [(⟨#[122]⟩ : ByteArray)]) x1 ⟨HN1.out, fun s hs => by rw [List.mem_singleton] at hs; subst hs; decide⟩ (by simp)
        refine wpAnyH_callE (i := 14) (fuel := 3) 101 rfl (by kernel_rfl) rfl (Ext.refl _) (by kernel_rfl) (f := 19) (args := #[.agg #[.int .u64 tn, .int .i64 ty, .int .u64 0, .int .u64 0, .int .i64 0, .bool false, .slice (some ⟨r7, 0, none⟩) 1 1]]) (by kernel_rfl) HC2.out ?_
        rintro e x2 ⟨a9, n9, c9, rfl, ho, y⟩
        refine ⟨_, rfl, y, ?_⟩
        have HQ : Hid (Rd x2 (.slice a9 n9 c9) (sv [(⟨#[122]⟩ : ByteArray)])) := ho.rd
        clear ho HC2
        have HB2 : Hid (Blk x2 b7 #[.int .i64 x.kind, .int .u64 x.num, .int .i64 x.node, .string x.key, .bool x.was, .string x.old, .int .u64 x.prev, .slice x.na x.nn x.nc, .slice x.ra x.rn x.rc, .slice x.ga x.gn x.gc, .slice x.oa x.om x.oc, .slice x.da x.dn x.dc] 36) := Blk.of HB1.out (y.block _ HB1.out.lt)
        have HO2 : Hid (Blk x2 (r7 + 1) #[.int .u64 tn, .int .i64 ty, .int .u64 0, .int .u64 0, .int .i64 0, .bool false, .slice (some ⟨r7, 0, none⟩) 1 1] 46) := Blk.of HO1.out (y.block _ HO1.out.lt)
        have HN2 : Hid (Rd x2 (.slice (some ⟨r7, 0, none⟩) 1 1) (sv [(⟨#[122]⟩ : ByteArray)])) := HN1.out.below y
        have HA2 : Hid (x.At x2) := HA1.out.below y
        have HY2 : Hid (Below w.heap.size w x2) := ext_trans HY1.out y
        clear HB1 HO1 HN1 HA1 HY1 y
        simp only [Act.put, List.setIfInBounds_toArray, List.set_cons_succ, List.set_cons_zero]
        have HAL : Hid (Calls Try.prog 20 #[.agg #[.int .u64 tn, .int .i64 ty, .int .u64 0, .int .u64 0, .int .i64 0, .bool false, .slice (some ⟨r7, 0, none⟩) 1 1], .agg #[.int .u64 tn, .int .i64 ty, .int .u64 0, .int .u64 0, .int .i64 0, .bool false, .slice a9 n9 c9]] x2 fun e w' => e = .returned (.bool true) ∧ Below x2.heap.size x2 w') := alike_same (OpenV.mk tn ty 0 0 0 false (some ⟨r7, 0, none⟩) 1 1 [(⟨#[122]⟩ : ByteArray)]) a9 n9 c9 x2 HN2.out HQ.out
        refine wpAnyH_callE (i := 15) (fuel := 2) 102 rfl (by kernel_rfl) rfl (Ext.refl _) (by kernel_rfl) (f := 20) (args := #[.agg #[.int .u64 tn, .int .i64 ty, .int .u64 0, .int .u64 0, .int .i64 0, .bool false, .slice (some ⟨r7, 0, none⟩) 1 1], .agg #[.int .u64 tn, .int .i64 ty, .int .u64 0, .int .u64 0, .int .i64 0, .bool false, .slice a9 n9 c9]]) (by kernel_rfl) HAL.out ?_
        rintro e x3 ⟨rfl, y⟩
        refine ⟨_, rfl, y, ?_⟩
        clear HAL HQ
        have HB3 : Hid (Blk x3 b7 #[.int .i64 x.kind, .int .u64 x.num, .int .i64 x.node, .string x.key, .bool x.was, .string x.old, .int .u64 x.prev, .slice x.na x.nn x.nc, .slice x.ra x.rn x.rc, .slice x.ga x.gn x.gc, .slice x.oa x.om x.oc, .slice x.da x.dn x.dc] 36) := Blk.of HB2.out (y.block _ HB2.out.lt)
        have HO3 : Hid (Blk x3 (r7 + 1) #[.int .u64 tn, .int .i64 ty, .int .u64 0, .int .u64 0, .int .i64 0, .bool false, .slice (some ⟨r7, 0, none⟩) 1 1] 46) := Blk.of HO2.out (y.block _ HO2.out.lt)
        have HN3 : Hid (Rd x3 (.slice (some ⟨r7, 0, none⟩) 1 1) (sv [(⟨#[122]⟩ : ByteArray)])) := HN2.out.below y
        have HA3 : Hid (x.At x3) := HA2.out.below y
        have HY3 : Hid (Below w.heap.size w x3) := ext_trans HY2.out y
        clear HB2 HO2 HN2 HA2 HY2 y
        simp only [Act.put, List.setIfInBounds_toArray, List.set_cons_succ, List.set_cons_zero]
        haveI nA := cls_ext x3
        have q0 := cellX (W0 := x3) (show (x3).cell? ⟨b7, 0, none⟩ = some (.int .i64 x.kind) from HB3.out.cell 0)
        have q1 := cellX (W0 := x3) (show (x3).cell? ⟨b7, 1, none⟩ = some (.int .u64 x.num) from HB3.out.cell 1)
        have q2 := cellX (W0 := x3) (show (x3).cell? ⟨b7, 2, none⟩ = some (.int .i64 x.node) from HB3.out.cell 2)
        have q3 := cellX (W0 := x3) (show (x3).cell? ⟨b7, 3, none⟩ = some (.string x.key) from HB3.out.cell 3)
        have q4 := cellX (W0 := x3) (show (x3).cell? ⟨b7, 4, none⟩ = some (.bool x.was) from HB3.out.cell 4)
        have q5 := cellX (W0 := x3) (show (x3).cell? ⟨b7, 5, none⟩ = some (.string x.old) from HB3.out.cell 5)
        have q6 := cellX (W0 := x3) (show (x3).cell? ⟨b7, 6, none⟩ = some (.int .u64 x.prev) from HB3.out.cell 6)
        have q7 := cellX (W0 := x3) (show (x3).cell? ⟨b7, 7, none⟩ = some (.slice x.na x.nn x.nc) from HB3.out.cell 7)
        have q8 := cellX (W0 := x3) (show (x3).cell? ⟨b7, 8, none⟩ = some (.slice x.ra x.rn x.rc) from HB3.out.cell 8)
        have q9 := cellX (W0 := x3) (show (x3).cell? ⟨b7, 9, none⟩ = some (.slice x.ga x.gn x.gc) from HB3.out.cell 9)
        have q10 := cellX (W0 := x3) (show (x3).cell? ⟨b7, 10, none⟩ = some (.slice x.oa x.om x.oc) from HB3.out.cell 10)
        have q11 := cellX (W0 := x3) (show (x3).cell? ⟨b7, 11, none⟩ = some (.slice x.da x.dn x.dc) from HB3.out.cell 11)
        have p0 := cellX (W0 := x3) (show (x3).cell? ⟨r7 + 1, 0, none⟩ = some _ from HO3.out.cell 0)
        have p1 := cellX (W0 := x3) (show (x3).cell? ⟨r7 + 1, 1, none⟩ = some _ from HO3.out.cell 1)
        have p2 := cellX (W0 := x3) (show (x3).cell? ⟨r7 + 1, 2, none⟩ = some _ from HO3.out.cell 2)
        have p3 := cellX (W0 := x3) (show (x3).cell? ⟨r7 + 1, 3, none⟩ = some _ from HO3.out.cell 3)
        have p4 := cellX (W0 := x3) (show (x3).cell? ⟨r7 + 1, 4, none⟩ = some _ from HO3.out.cell 4)
        have p5 := cellX (W0 := x3) (show (x3).cell? ⟨r7 + 1, 5, none⟩ = some _ from HO3.out.cell 5)
        have p6 := cellX (W0 := x3) (show (x3).cell? ⟨r7 + 1, 6, none⟩ = some _ from HO3.out.cell 6)
        have pz := cellX (W0 := x3) (show (x3).cell? ⟨r7, 0, none⟩ = some (.string (⟨#[122]⟩ : ByteArray)) from by have := HN3.out.at.2.2.2.str (j := 0) rfl (by simp); simpa [Addr.add] using this)
        refine wpAnyH_seg (by kernel_rfl) (fun _ _ _ h => h) [16, 17] 0 _ _ _ (Ext.refl _) (by kernel_rfl) ?_
        simp only [opsAt, List.getElem?_toArray, List.getElem?_cons_zero, List.getElem?_cons_succ, List.cons_append, List.nil_append]
        repeat (go_big_quiet_step (fail))
        refine wpQuiet_nil ?_
        clear nA pz q0 q1 q2 q3 q4 q5 q6 q7 q8 q9 q10 q11 p0 p1 p2 p3 p4 p5 p6
        refine wpAnyH_done (by kernel_rfl) (NoPanic.normal ?_) 0
        have YE : Hid _ := HY3.out
        clear HB3 HO3 HN3 HA3 HY3
        go_wp2
        go_ret
        exact ⟨ret_bool (by simp), YE.out⟩
      · have hb8 : (K == 8) = false := beq_eq_false_iff_ne.2 h8
        have hb1 : (K == 1) = false := beq_eq_false_iff_ne.2 h1
        have hK1 := h1
        have hK8 := h8
        have HK6 : Hid (K = 2 ∨ K = 3 ∨ K = 4 ∨ K = 5 ∨ K = 6 ∨ K = 7) := by show _ ∨ _; omega
        have HBZ := HB7
        have HTZ := HT4
        have HYZ := HY4
        go_upto_region 11 with fail
        rename World => w4
        clear HB7 HT4 HY4
        have HB7 := HBZ
        have HT4 := HTZ
        have HY4 := HYZ
        clear HBZ HTZ HYZ
        have HX0 : Hid ((RecV.mk K tn ty (⟨#[]⟩ : ByteArray) false (⟨#[]⟩ : ByteArray) 0 none 0 0 [] none 0 0 [] none 0 0 [] none 0 0 [] none 0 0 []).At w4) := recOf_at w4 K tn ty (⟨#[]⟩ : ByteArray) false (⟨#[]⟩ : ByteArray) 0 (by decide) (by decide)
        have HR0 : Hid (rightRec (RecV.mk K tn ty (⟨#[]⟩ : ByteArray) false (⟨#[]⟩ : ByteArray) 0 none 0 0 [] none 0 0 [] none 0 0 [] none 0 0 [] none 0 0 []) = true) := by show _ = _; rw [right_parts]; simp [emp_yes, HT.out, hKl, hKh, hK1, hK8]
        have HRC : Hid (Calls Try.prog 18 #[.agg #[.int .i64 K, .int .u64 tn, .int .i64 ty, .string (⟨#[]⟩ : ByteArray), .bool false, .string (⟨#[]⟩ : ByteArray), .int .u64 0, .slice none 0 0, .slice none 0 0, .slice none 0 0, .slice none 0 0, .slice none 0 0]] w4 fun e w' => e = .returned (.bool true) ∧ Below w4.heap.size w4 w') := by have := recRight_any (RecV.mk K tn ty (⟨#[]⟩ : ByteArray) false (⟨#[]⟩ : ByteArray) 0 none 0 0 [] none 0 0 [] none 0 0 [] none 0 0 [] none 0 0 []) w4 HX0.out; rw [HR0.out] at this; exact this
        clear HX0 HR0
        have z0 : w4.cell? ⟨b7, 0, none⟩ = some _ := HB7.out.cell 0
        have z1 : w4.cell? ⟨b7, 1, none⟩ = some _ := HB7.out.cell 1
        have z2 : w4.cell? ⟨b7, 2, none⟩ = some _ := HB7.out.cell 2
        have z3 : w4.cell? ⟨b7, 3, none⟩ = some _ := HB7.out.cell 3
        have z4 : w4.cell? ⟨b7, 4, none⟩ = some _ := HB7.out.cell 4
        have z5 : w4.cell? ⟨b7, 5, none⟩ = some _ := HB7.out.cell 5
        have z6 : w4.cell? ⟨b7, 6, none⟩ = some _ := HB7.out.cell 6
        have z7 : w4.cell? ⟨b7, 7, none⟩ = some _ := HB7.out.cell 7
        have z8 : w4.cell? ⟨b7, 8, none⟩ = some _ := HB7.out.cell 8
        have z9 : w4.cell? ⟨b7, 9, none⟩ = some _ := HB7.out.cell 9
        have z10 : w4.cell? ⟨b7, 10, none⟩ = some _ := HB7.out.cell 10
        have z11 : w4.cell? ⟨b7, 11, none⟩ = some _ := HB7.out.cell 11
        go_wp2_with fail
        refine HRC.out.mono ?_
        rintro e w5 ⟨rfl, y⟩
        have HB8 : Hid (Blk w5 b7 #[.int .i64 K, .int .u64 tn, .int .i64 ty, .string (⟨#[]⟩ : ByteArray), .bool false, .string (⟨#[]⟩ : ByteArray), .int .u64 0, .slice none 0 0, .slice none 0 0, .slice none 0 0, .slice none 0 0, .slice none 0 0] 36) := Blk.of HB7.out (y.block _ HB7.out.lt)
        have HT5 : Hid (Blk w5 w.heap.size #[.int .u64 tn, .int .i64 ty] 24) := Blk.of HT4.out (y.block _ HT4.out.lt)
        have HY5 : Hid (Below w.heap.size w w5) := ext_trans HY4.out y
        clear y HB7 HT4 HY4 HRC z0 z1 z2 z3 z4 z5 z6 z7 z8 z9 z10 z11
        go_upto_block 0 with fail
        go_cut [8] from 34 to 78 (fun s8 wx => ∃ b, s8 = .bool b ∧ RK w b7 tn ty b wx)
        case first =>
          rcases (show f = 0 ∨ f = 1 ∨ f = 2 ∨ f = 3 ∨ f = 4 ∨ f = 5 ∨ f = 6 ∨ f = 7 by omega) with rfl | rfl | rfl | rfl | rfl | rfl | rfl | rfl
          · have HRX : Hid (rightRec (RecV.mk K tn ty (⟨#[120]⟩ : ByteArray) false (⟨#[]⟩ : ByteArray) 0 none 0 0 [] none 0 0 [] none 0 0 [] none 0 0 [] none 0 0 []) = false) := by
              show _ = _
              rw [right_parts]
              rcases HK6.out with rfl | rfl | rfl | rfl | rfl | rfl <;> simp [emp_size, emp_yes, emp_no1, emp_no2, key_k, key_x, reads_ab, nodes_15, HT.out]
            have hsz : w5.heap.size ≤ w5.heap.size := Nat.le_refl _
            have HBA : Hid (Blk w5 b7 #[.int .i64 K, .int .u64 tn, .int .i64 ty, .string (⟨#[]⟩ : ByteArray), .bool false, .string (⟨#[]⟩ : ByteArray), .int .u64 0, .slice none 0 0, .slice none 0 0, .slice none 0 0, .slice none 0 0, .slice none 0 0] 36) := HB8
            have HTA := HT5
            have HYA := HY5
            have HBX : Hid (Blk (w5.setCell ⟨b7, 3, none⟩ (.string (⟨#[120]⟩ : ByteArray))) b7 #[.int .i64 K, .int .u64 tn, .int .i64 ty, .string (⟨#[120]⟩ : ByteArray), .bool false, .string (⟨#[]⟩ : ByteArray), .int .u64 0, .slice none 0 0, .slice none 0 0, .slice none 0 0, .slice none 0 0, .slice none 0 0] 36) := by show Blk _ _ _ _; have := HBA.out.set 3 (.string (⟨#[120]⟩ : ByteArray)); simpa using this
            have HTX : Hid (Blk (w5.setCell ⟨b7, 3, none⟩ (.string (⟨#[120]⟩ : ByteArray))) w.heap.size #[.int .u64 tn, .int .i64 ty] 24) := HTA.out.setOther _ _ (by have := HSZ.out; omega)
            have HYX : Hid (Below w.heap.size w (w5.setCell ⟨b7, 3, none⟩ (.string (⟨#[120]⟩ : ByteArray)))) := HYA.out.setCell (by have := HSZ.out; show _ ≤ b7; omega) _
            have HLT : Hid (b7 < w5.heap.size) := HB8.out.lt
            have HAX : Hid (RecV.At (w5.setCell ⟨b7, 3, none⟩ (.string (⟨#[120]⟩ : ByteArray))) (RecV.mk K tn ty (⟨#[120]⟩ : ByteArray) false (⟨#[]⟩ : ByteArray) 0 none 0 0 [] none 0 0 [] none 0 0 [] none 0 0 [] none 0 0 [])) := ⟨(show ByteArray.size (⟨#[120]⟩ : ByteArray) ≤ maxLen by decide), (show ByteArray.size (⟨#[]⟩ : ByteArray) ≤ maxLen by decide), Rd.nil _, Rd.nil _, (fun s hs => nomatch hs), RowsN.nil _ _ _, (fun s hs => nomatch hs), RowsN.nil _ _ _, (fun s hs => nomatch hs), RowsN.nil _ _ _, (fun s hs => nomatch hs)⟩
            have HRK : Hid (RK w b7 tn ty (false) (w5.setCell ⟨b7, 3, none⟩ (.string (⟨#[120]⟩ : ByteArray)))) := ⟨(RecV.mk K tn ty (⟨#[120]⟩ : ByteArray) false (⟨#[]⟩ : ByteArray) 0 none 0 0 [] none 0 0 [] none 0 0 [] none 0 0 [] none 0 0 []), HRX.out, HBX.out, HAX.out, HTX.out, HYX.out, HSZ.out⟩
            have z3 : w5.cell? ⟨b7, 3, none⟩ = some _ := HBA.out.cell 3
            have f3 : w5.frozen? ⟨b7, 3, none⟩ = false := HBA.out.frozen 3
            clear HRX HBA HTA HYA HBX HTX HYX HAX HLT hsz
            go_wp2
            go_meet
            case rel => exact ⟨false, by first | rfl | simp, HRK.out⟩
          · have HRX : Hid (rightRec (RecV.mk K tn ty (⟨#[]⟩ : ByteArray) true (⟨#[]⟩ : ByteArray) 0 none 0 0 [] none 0 0 [] none 0 0 [] none 0 0 [] none 0 0 []) = false) := by
              show _ = _
              rw [right_parts]
              rcases HK6.out with rfl | rfl | rfl | rfl | rfl | rfl <;> simp [emp_size, emp_yes, emp_no1, emp_no2, key_k, key_x, reads_ab, nodes_15, HT.out]
            have hsz : w5.heap.size ≤ w5.heap.size := Nat.le_refl _
            have HBA : Hid (Blk w5 b7 #[.int .i64 K, .int .u64 tn, .int .i64 ty, .string (⟨#[]⟩ : ByteArray), .bool false, .string (⟨#[]⟩ : ByteArray), .int .u64 0, .slice none 0 0, .slice none 0 0, .slice none 0 0, .slice none 0 0, .slice none 0 0] 36) := HB8
            have HTA := HT5
            have HYA := HY5
            have HBX : Hid (Blk (w5.setCell ⟨b7, 4, none⟩ (.bool true)) b7 #[.int .i64 K, .int .u64 tn, .int .i64 ty, .string (⟨#[]⟩ : ByteArray), .bool true, .string (⟨#[]⟩ : ByteArray), .int .u64 0, .slice none 0 0, .slice none 0 0, .slice none 0 0, .slice none 0 0, .slice none 0 0] 36) := by show Blk _ _ _ _; have := HBA.out.set 4 (.bool true); simpa using this
            have HTX : Hid (Blk (w5.setCell ⟨b7, 4, none⟩ (.bool true)) w.heap.size #[.int .u64 tn, .int .i64 ty] 24) := HTA.out.setOther _ _ (by have := HSZ.out; omega)
            have HYX : Hid (Below w.heap.size w (w5.setCell ⟨b7, 4, none⟩ (.bool true))) := HYA.out.setCell (by have := HSZ.out; show _ ≤ b7; omega) _
            have HLT : Hid (b7 < w5.heap.size) := HB8.out.lt
            have HAX : Hid (RecV.At (w5.setCell ⟨b7, 4, none⟩ (.bool true)) (RecV.mk K tn ty (⟨#[]⟩ : ByteArray) true (⟨#[]⟩ : ByteArray) 0 none 0 0 [] none 0 0 [] none 0 0 [] none 0 0 [] none 0 0 [])) := ⟨(show ByteArray.size (⟨#[]⟩ : ByteArray) ≤ maxLen by decide), (show ByteArray.size (⟨#[]⟩ : ByteArray) ≤ maxLen by decide), Rd.nil _, Rd.nil _, (fun s hs => nomatch hs), RowsN.nil _ _ _, (fun s hs => nomatch hs), RowsN.nil _ _ _, (fun s hs => nomatch hs), RowsN.nil _ _ _, (fun s hs => nomatch hs)⟩
            have HRK : Hid (RK w b7 tn ty (false) (w5.setCell ⟨b7, 4, none⟩ (.bool true))) := ⟨(RecV.mk K tn ty (⟨#[]⟩ : ByteArray) true (⟨#[]⟩ : ByteArray) 0 none 0 0 [] none 0 0 [] none 0 0 [] none 0 0 [] none 0 0 []), HRX.out, HBX.out, HAX.out, HTX.out, HYX.out, HSZ.out⟩
            have z4 : w5.cell? ⟨b7, 4, none⟩ = some _ := HBA.out.cell 4
            have f4 : w5.frozen? ⟨b7, 4, none⟩ = false := HBA.out.frozen 4
            clear HRX HBA HTA HYA HBX HTX HYX HAX HLT hsz
            go_wp2
            go_meet
            case rel => exact ⟨false, by first | rfl | simp, HRK.out⟩
          · have HRX : Hid (rightRec (RecV.mk K tn ty (⟨#[]⟩ : ByteArray) false (⟨#[]⟩ : ByteArray) 5 none 0 0 [] none 0 0 [] none 0 0 [] none 0 0 [] none 0 0 []) = decide (K ≤ 2)) := by
              show _ = _
              rw [right_parts]
              rcases HK6.out with rfl | rfl | rfl | rfl | rfl | rfl <;> simp [emp_size, emp_yes, emp_no1, emp_no2, key_k, key_x, reads_ab, nodes_15, HT.out]
            have hsz : w5.heap.size ≤ w5.heap.size := Nat.le_refl _
            have HBA : Hid (Blk w5 b7 #[.int .i64 K, .int .u64 tn, .int .i64 ty, .string (⟨#[]⟩ : ByteArray), .bool false, .string (⟨#[]⟩ : ByteArray), .int .u64 0, .slice none 0 0, .slice none 0 0, .slice none 0 0, .slice none 0 0, .slice none 0 0] 36) := HB8
            have HTA := HT5
            have HYA := HY5
            have HBX : Hid (Blk (w5.setCell ⟨b7, 6, none⟩ (.int .u64 5)) b7 #[.int .i64 K, .int .u64 tn, .int .i64 ty, .string (⟨#[]⟩ : ByteArray), .bool false, .string (⟨#[]⟩ : ByteArray), .int .u64 5, .slice none 0 0, .slice none 0 0, .slice none 0 0, .slice none 0 0, .slice none 0 0] 36) := by show Blk _ _ _ _; have := HBA.out.set 6 (.int .u64 5); simpa using this
            have HTX : Hid (Blk (w5.setCell ⟨b7, 6, none⟩ (.int .u64 5)) w.heap.size #[.int .u64 tn, .int .i64 ty] 24) := HTA.out.setOther _ _ (by have := HSZ.out; omega)
            have HYX : Hid (Below w.heap.size w (w5.setCell ⟨b7, 6, none⟩ (.int .u64 5))) := HYA.out.setCell (by have := HSZ.out; show _ ≤ b7; omega) _
            have HLT : Hid (b7 < w5.heap.size) := HB8.out.lt
            have HAX : Hid (RecV.At (w5.setCell ⟨b7, 6, none⟩ (.int .u64 5)) (RecV.mk K tn ty (⟨#[]⟩ : ByteArray) false (⟨#[]⟩ : ByteArray) 5 none 0 0 [] none 0 0 [] none 0 0 [] none 0 0 [] none 0 0 [])) := ⟨(show ByteArray.size (⟨#[]⟩ : ByteArray) ≤ maxLen by decide), (show ByteArray.size (⟨#[]⟩ : ByteArray) ≤ maxLen by decide), Rd.nil _, Rd.nil _, (fun s hs => nomatch hs), RowsN.nil _ _ _, (fun s hs => nomatch hs), RowsN.nil _ _ _, (fun s hs => nomatch hs), RowsN.nil _ _ _, (fun s hs => nomatch hs)⟩
            have HRK : Hid (RK w b7 tn ty (decide (K ≤ 2)) (w5.setCell ⟨b7, 6, none⟩ (.int .u64 5))) := ⟨(RecV.mk K tn ty (⟨#[]⟩ : ByteArray) false (⟨#[]⟩ : ByteArray) 5 none 0 0 [] none 0 0 [] none 0 0 [] none 0 0 [] none 0 0 []), HRX.out, HBX.out, HAX.out, HTX.out, HYX.out, HSZ.out⟩
            have z6 : w5.cell? ⟨b7, 6, none⟩ = some _ := HBA.out.cell 6
            have f6 : w5.frozen? ⟨b7, 6, none⟩ = false := HBA.out.frozen 6
            clear HRX HBA HTA HYA HBX HTX HYX HAX HLT hsz
            go_wp2
            go_meet
            case rel => exact ⟨decide (K ≤ 2), by first | rfl | simp, HRK.out⟩
          · have HRX : Hid (rightRec (RecV.mk K tn ty (⟨#[]⟩ : ByteArray) false (⟨#[]⟩ : ByteArray) 0 (some ⟨w5.heap.size, 0, none⟩) 2 2 [1, 5] none 0 0 [] none 0 0 [] none 0 0 [] none 0 0 []) = (K == 6)) := by
              show _ = _
              rw [right_parts]
              rcases HK6.out with rfl | rfl | rfl | rfl | rfl | rfl <;> simp [emp_size, emp_yes, emp_no1, emp_no2, key_k, key_x, reads_ab, nodes_15, HT.out]
            have HBA : Hid (Blk (w5.alloc (.cells #[.int .i64 1, .int .i64 5] 3)) b7 #[.int .i64 K, .int .u64 tn, .int .i64 ty, .string (⟨#[]⟩ : ByteArray), .bool false, .string (⟨#[]⟩ : ByteArray), .int .u64 0, .slice none 0 0, .slice none 0 0, .slice none 0 0, .slice none 0 0, .slice none 0 0] 36) := HB8.out.alloc _
            have HTA : Hid (Blk (w5.alloc (.cells #[.int .i64 1, .int .i64 5] 3)) w.heap.size #[.int .u64 tn, .int .i64 ty] 24) := HT5.out.alloc _
            have HYA : Hid (Below w.heap.size w (w5.alloc (.cells #[.int .i64 1, .int .i64 5] 3))) := HY5.out.alloc HY5.out.size _
            have HBX : Hid (Blk ((w5.alloc (.cells #[.int .i64 1, .int .i64 5] 3)).setCell ⟨b7, 7, none⟩ (.slice (some ⟨w5.heap.size, 0, none⟩) 2 2)) b7 #[.int .i64 K, .int .u64 tn, .int .i64 ty, .string (⟨#[]⟩ : ByteArray), .bool false, .string (⟨#[]⟩ : ByteArray), .int .u64 0, .slice (some ⟨w5.heap.size, 0, none⟩) 2 2, .slice none 0 0, .slice none 0 0, .slice none 0 0, .slice none 0 0] 36) := by show Blk _ _ _ _; have := HBA.out.set 7 (.slice (some ⟨w5.heap.size, 0, none⟩) 2 2); simpa using this
            have HTX : Hid (Blk ((w5.alloc (.cells #[.int .i64 1, .int .i64 5] 3)).setCell ⟨b7, 7, none⟩ (.slice (some ⟨w5.heap.size, 0, none⟩) 2 2)) w.heap.size #[.int .u64 tn, .int .i64 ty] 24) := HTA.out.setOther _ _ (by have := HSZ.out; omega)
            have HYX : Hid (Below w.heap.size w ((w5.alloc (.cells #[.int .i64 1, .int .i64 5] 3)).setCell ⟨b7, 7, none⟩ (.slice (some ⟨w5.heap.size, 0, none⟩) 2 2))) := HYA.out.setCell (by have := HSZ.out; show _ ≤ b7; omega) _
            have HLT : Hid (b7 < w5.heap.size) := HB8.out.lt
            have HN : Hid (Rd ((w5.alloc (.cells #[.int .i64 1, .int .i64 5] 3)).setCell ⟨b7, 7, none⟩ (.slice (some ⟨w5.heap.size, 0, none⟩) 2 2)) (.slice (some ⟨w5.heap.size, 0, none⟩) 2 2) (iv [1, 5])) := (OwnV.kept (w := (w5.alloc (.cells #[.int .i64 1, .int .i64 5] 3))) (World.ownsRow_lit w5 #[.int .i64 1, .int .i64 5] 2 (Nat.le_refl _) (by simp [maxLen]) rfl : OwnV (w5.alloc (.cells #[.int .i64 1, .int .i64 5] 3)) w5.heap.size 3 (.slice (some ⟨w5.heap.size, 0, none⟩) 2 2) (iv [1, 5])) (fun g hg => Below.heap_setCell _ _ _ _ (by simp [Value.ownBlock] at hg; have := HLT.out; show g ≠ b7; omega))).rd
            have HAX : Hid (RecV.At ((w5.alloc (.cells #[.int .i64 1, .int .i64 5] 3)).setCell ⟨b7, 7, none⟩ (.slice (some ⟨w5.heap.size, 0, none⟩) 2 2)) (RecV.mk K tn ty (⟨#[]⟩ : ByteArray) false (⟨#[]⟩ : ByteArray) 0 (some ⟨w5.heap.size, 0, none⟩) 2 2 [1, 5] none 0 0 [] none 0 0 [] none 0 0 [] none 0 0 [])) := ⟨(show ByteArray.size (⟨#[]⟩ : ByteArray) ≤ maxLen by decide), (show ByteArray.size (⟨#[]⟩ : ByteArray) ≤ maxLen by decide), HN.out, Rd.nil _, (fun s hs => nomatch hs), RowsN.nil _ _ _, (fun s hs => nomatch hs), RowsN.nil _ _ _, (fun s hs => nomatch hs), RowsN.nil _ _ _, (fun s hs => nomatch hs)⟩
            have HRK : Hid (RK w b7 tn ty ((K == 6)) ((w5.alloc (.cells #[.int .i64 1, .int .i64 5] 3)).setCell ⟨b7, 7, none⟩ (.slice (some ⟨w5.heap.size, 0, none⟩) 2 2))) := ⟨(RecV.mk K tn ty (⟨#[]⟩ : ByteArray) false (⟨#[]⟩ : ByteArray) 0 (some ⟨w5.heap.size, 0, none⟩) 2 2 [1, 5] none 0 0 [] none 0 0 [] none 0 0 [] none 0 0 []), HRX.out, HBX.out, HAX.out, HTX.out, HYX.out, HSZ.out⟩
            have z7 : (w5.alloc (.cells #[.int .i64 1, .int .i64 5] 3)).cell? ⟨b7, 7, none⟩ = some _ := HBA.out.cell 7
            have f7 : (w5.alloc (.cells #[.int .i64 1, .int .i64 5] 3)).frozen? ⟨b7, 7, none⟩ = false := HBA.out.frozen 7
            clear HRX HBA HTA HYA HBX HTX HYX HAX HLT HN
            go_wp2
            go_meet
            case rel => exact ⟨(K == 6), by first | rfl | simp, HRK.out⟩
          · have HRX : Hid (rightRec (RecV.mk K tn ty (⟨#[]⟩ : ByteArray) false (⟨#[]⟩ : ByteArray) 0 none 0 0 [] (some ⟨w5.heap.size, 0, none⟩) 2 2 [(⟨#[97]⟩ : ByteArray), (⟨#[98]⟩ : ByteArray)] none 0 0 [] none 0 0 [] none 0 0 []) = (K == 3)) := by
              show _ = _
              rw [right_parts]
              rcases HK6.out with rfl | rfl | rfl | rfl | rfl | rfl <;> simp [emp_size, emp_yes, emp_no1, emp_no2, key_k, key_x, reads_ab, nodes_15, HT.out]
            have HBA : Hid (Blk (w5.alloc (.cells #[.string (⟨#[97]⟩ : ByteArray), .string (⟨#[98]⟩ : ByteArray)] 9)) b7 #[.int .i64 K, .int .u64 tn, .int .i64 ty, .string (⟨#[]⟩ : ByteArray), .bool false, .string (⟨#[]⟩ : ByteArray), .int .u64 0, .slice none 0 0, .slice none 0 0, .slice none 0 0, .slice none 0 0, .slice none 0 0] 36) := HB8.out.alloc _
            have HTA : Hid (Blk (w5.alloc (.cells #[.string (⟨#[97]⟩ : ByteArray), .string (⟨#[98]⟩ : ByteArray)] 9)) w.heap.size #[.int .u64 tn, .int .i64 ty] 24) := HT5.out.alloc _
            have HYA : Hid (Below w.heap.size w (w5.alloc (.cells #[.string (⟨#[97]⟩ : ByteArray), .string (⟨#[98]⟩ : ByteArray)] 9))) := HY5.out.alloc HY5.out.size _
            have HBX : Hid (Blk ((w5.alloc (.cells #[.string (⟨#[97]⟩ : ByteArray), .string (⟨#[98]⟩ : ByteArray)] 9)).setCell ⟨b7, 8, none⟩ (.slice (some ⟨w5.heap.size, 0, none⟩) 2 2)) b7 #[.int .i64 K, .int .u64 tn, .int .i64 ty, .string (⟨#[]⟩ : ByteArray), .bool false, .string (⟨#[]⟩ : ByteArray), .int .u64 0, .slice none 0 0, .slice (some ⟨w5.heap.size, 0, none⟩) 2 2, .slice none 0 0, .slice none 0 0, .slice none 0 0] 36) := by show Blk _ _ _ _; have := HBA.out.set 8 (.slice (some ⟨w5.heap.size, 0, none⟩) 2 2); simpa using this
            have HTX : Hid (Blk ((w5.alloc (.cells #[.string (⟨#[97]⟩ : ByteArray), .string (⟨#[98]⟩ : ByteArray)] 9)).setCell ⟨b7, 8, none⟩ (.slice (some ⟨w5.heap.size, 0, none⟩) 2 2)) w.heap.size #[.int .u64 tn, .int .i64 ty] 24) := HTA.out.setOther _ _ (by have := HSZ.out; omega)
            have HYX : Hid (Below w.heap.size w ((w5.alloc (.cells #[.string (⟨#[97]⟩ : ByteArray), .string (⟨#[98]⟩ : ByteArray)] 9)).setCell ⟨b7, 8, none⟩ (.slice (some ⟨w5.heap.size, 0, none⟩) 2 2))) := HYA.out.setCell (by have := HSZ.out; show _ ≤ b7; omega) _
            have HLT : Hid (b7 < w5.heap.size) := HB8.out.lt
            have HN : Hid (Rd ((w5.alloc (.cells #[.string (⟨#[97]⟩ : ByteArray), .string (⟨#[98]⟩ : ByteArray)] 9)).setCell ⟨b7, 8, none⟩ (.slice (some ⟨w5.heap.size, 0, none⟩) 2 2)) (.slice (some ⟨w5.heap.size, 0, none⟩) 2 2) (sv [(⟨#[97]⟩ : ByteArray), (⟨#[98]⟩ : ByteArray)])) := (OwnV.kept (w := (w5.alloc (.cells #[.string (⟨#[97]⟩ : ByteArray), .string (⟨#[98]⟩ : ByteArray)] 9))) (World.ownsRow_lit w5 #[.string (⟨#[97]⟩ : ByteArray), .string (⟨#[98]⟩ : ByteArray)] 2 (Nat.le_refl _) (by simp [maxLen]) rfl : OwnV (w5.alloc (.cells #[.string (⟨#[97]⟩ : ByteArray), .string (⟨#[98]⟩ : ByteArray)] 9)) w5.heap.size 9 (.slice (some ⟨w5.heap.size, 0, none⟩) 2 2) (sv [(⟨#[97]⟩ : ByteArray), (⟨#[98]⟩ : ByteArray)])) (fun g hg => Below.heap_setCell _ _ _ _ (by simp [Value.ownBlock] at hg; have := HLT.out; show g ≠ b7; omega))).rd
            have HAX : Hid (RecV.At ((w5.alloc (.cells #[.string (⟨#[97]⟩ : ByteArray), .string (⟨#[98]⟩ : ByteArray)] 9)).setCell ⟨b7, 8, none⟩ (.slice (some ⟨w5.heap.size, 0, none⟩) 2 2)) (RecV.mk K tn ty (⟨#[]⟩ : ByteArray) false (⟨#[]⟩ : ByteArray) 0 none 0 0 [] (some ⟨w5.heap.size, 0, none⟩) 2 2 [(⟨#[97]⟩ : ByteArray), (⟨#[98]⟩ : ByteArray)] none 0 0 [] none 0 0 [] none 0 0 [])) := ⟨(show ByteArray.size (⟨#[]⟩ : ByteArray) ≤ maxLen by decide), (show ByteArray.size (⟨#[]⟩ : ByteArray) ≤ maxLen by decide), Rd.nil _, HN.out, (fun s hs => by simp at hs; rcases hs with rfl | rfl <;> decide), RowsN.nil _ _ _, (fun s hs => nomatch hs), RowsN.nil _ _ _, (fun s hs => nomatch hs), RowsN.nil _ _ _, (fun s hs => nomatch hs)⟩
            have HRK : Hid (RK w b7 tn ty ((K == 3)) ((w5.alloc (.cells #[.string (⟨#[97]⟩ : ByteArray), .string (⟨#[98]⟩ : ByteArray)] 9)).setCell ⟨b7, 8, none⟩ (.slice (some ⟨w5.heap.size, 0, none⟩) 2 2))) := ⟨(RecV.mk K tn ty (⟨#[]⟩ : ByteArray) false (⟨#[]⟩ : ByteArray) 0 none 0 0 [] (some ⟨w5.heap.size, 0, none⟩) 2 2 [(⟨#[97]⟩ : ByteArray), (⟨#[98]⟩ : ByteArray)] none 0 0 [] none 0 0 [] none 0 0 []), HRX.out, HBX.out, HAX.out, HTX.out, HYX.out, HSZ.out⟩
            have z8 : (w5.alloc (.cells #[.string (⟨#[97]⟩ : ByteArray), .string (⟨#[98]⟩ : ByteArray)] 9)).cell? ⟨b7, 8, none⟩ = some _ := HBA.out.cell 8
            have f8 : (w5.alloc (.cells #[.string (⟨#[97]⟩ : ByteArray), .string (⟨#[98]⟩ : ByteArray)] 9)).frozen? ⟨b7, 8, none⟩ = false := HBA.out.frozen 8
            clear HRX HBA HTA HYA HBX HTX HYX HAX HLT HN
            go_wp2
            go_meet
            case rel => exact ⟨(K == 3), by first | rfl | simp, HRK.out⟩
          · have HRX : Hid (rightRec (RecV.mk K tn ty (⟨#[]⟩ : ByteArray) false (⟨#[]⟩ : ByteArray) 0 none 0 0 [] none 0 0 [] none 0 0 [] (some ⟨w5.heap.size + 1, 0, none⟩) 1 1 [(OpenV.mk tn ty 0 0 0 false (some ⟨w5.heap.size, 0, none⟩) 1 1 [(⟨#[122]⟩ : ByteArray)])] none 0 0 []) = false) := by
              show _ = _
              rw [right_parts]
              rcases HK6.out with rfl | rfl | rfl | rfl | rfl | rfl <;> simp [emp_size, emp_yes, emp_no1, emp_no2, key_k, key_x, reads_ab, nodes_15, HT.out, fit_one openOk openLt noOpen 200 _ (by omega) (open_ok HT.out _ _ _)]
            have HBA : Hid (Blk ((w5.alloc (.cells #[.string (⟨#[122]⟩ : ByteArray)] 9)).alloc (.cells #[.int .u64 tn, .int .i64 ty, .int .u64 0, .int .u64 0, .int .i64 0, .bool false, .slice (some ⟨w5.heap.size, 0, none⟩) 1 1] 46)) b7 #[.int .i64 K, .int .u64 tn, .int .i64 ty, .string (⟨#[]⟩ : ByteArray), .bool false, .string (⟨#[]⟩ : ByteArray), .int .u64 0, .slice none 0 0, .slice none 0 0, .slice none 0 0, .slice none 0 0, .slice none 0 0] 36) := (HB8.out.alloc _).alloc _
            have HTA : Hid (Blk ((w5.alloc (.cells #[.string (⟨#[122]⟩ : ByteArray)] 9)).alloc (.cells #[.int .u64 tn, .int .i64 ty, .int .u64 0, .int .u64 0, .int .i64 0, .bool false, .slice (some ⟨w5.heap.size, 0, none⟩) 1 1] 46)) w.heap.size #[.int .u64 tn, .int .i64 ty] 24) := (HT5.out.alloc _).alloc _
            have HYA : Hid (Below w.heap.size w ((w5.alloc (.cells #[.string (⟨#[122]⟩ : ByteArray)] 9)).alloc (.cells #[.int .u64 tn, .int .i64 ty, .int .u64 0, .int .u64 0, .int .i64 0, .bool false, .slice (some ⟨w5.heap.size, 0, none⟩) 1 1] 46))) := (HY5.out.alloc HY5.out.size _).alloc (by have := HY5.out.size; simp; omega) _
            have HBX : Hid (Blk (((w5.alloc (.cells #[.string (⟨#[122]⟩ : ByteArray)] 9)).alloc (.cells #[.int .u64 tn, .int .i64 ty, .int .u64 0, .int .u64 0, .int .i64 0, .bool false, .slice (some ⟨w5.heap.size, 0, none⟩) 1 1] 46)).setCell ⟨b7, 10, none⟩ (.slice (some ⟨w5.heap.size + 1, 0, none⟩) 1 1)) b7 #[.int .i64 K, .int .u64 tn, .int .i64 ty, .string (⟨#[]⟩ : ByteArray), .bool false, .string (⟨#[]⟩ : ByteArray), .int .u64 0, .slice none 0 0, .slice none 0 0, .slice none 0 0, .slice (some ⟨w5.heap.size + 1, 0, none⟩) 1 1, .slice none 0 0] 36) := by show Blk _ _ _ _; have := HBA.out.set 10 (.slice (some ⟨w5.heap.size + 1, 0, none⟩) 1 1); simpa using this
            have HTX : Hid (Blk (((w5.alloc (.cells #[.string (⟨#[122]⟩ : ByteArray)] 9)).alloc (.cells #[.int .u64 tn, .int .i64 ty, .int .u64 0, .int .u64 0, .int .i64 0, .bool false, .slice (some ⟨w5.heap.size, 0, none⟩) 1 1] 46)).setCell ⟨b7, 10, none⟩ (.slice (some ⟨w5.heap.size + 1, 0, none⟩) 1 1)) w.heap.size #[.int .u64 tn, .int .i64 ty] 24) := HTA.out.setOther _ _ (by have := HSZ.out; omega)
            have HYX : Hid (Below w.heap.size w (((w5.alloc (.cells #[.string (⟨#[122]⟩ : ByteArray)] 9)).alloc (.cells #[.int .u64 tn, .int .i64 ty, .int .u64 0, .int .u64 0, .int .i64 0, .bool false, .slice (some ⟨w5.heap.size, 0, none⟩) 1 1] 46)).setCell ⟨b7, 10, none⟩ (.slice (some ⟨w5.heap.size + 1, 0, none⟩) 1 1))) := HYA.out.setCell (by have := HSZ.out; show _ ≤ b7; omega) _
            have HLT : Hid (b7 < w5.heap.size) := HB8.out.lt
            have HN0 : Hid (OwnV (w5.alloc (.cells #[.string (⟨#[122]⟩ : ByteArray)] 9)) w5.heap.size 9 (.slice (some ⟨w5.heap.size, 0, none⟩) 1 1) (sv [(⟨#[122]⟩ : ByteArray)])) := World.ownsRow_lit w5 #[.string (⟨#[122]⟩ : ByteArray)] 1 (Nat.le_refl _) (by simp [maxLen]) rfl
            have HN : Hid (Rd (((w5.alloc (.cells #[.string (⟨#[122]⟩ : ByteArray)] 9)).alloc (.cells #[.int .u64 tn, .int .i64 ty, .int .u64 0, .int .u64 0, .int .i64 0, .bool false, .slice (some ⟨w5.heap.size, 0, none⟩) 1 1] 46)).setCell ⟨b7, 10, none⟩ (.slice (some ⟨w5.heap.size + 1, 0, none⟩) 1 1)) (.slice (some ⟨w5.heap.size, 0, none⟩) 1 1) (sv [(⟨#[122]⟩ : ByteArray)])) := (OwnV.kept (HN0.out.below (below_allocR _)) (fun g hg => Below.heap_setCell _ _ _ _ (by simp [Value.ownBlock] at hg; have := HLT.out; show g ≠ b7; omega))).rd
            have HK : Hid (Blk ((w5.alloc (.cells #[.string (⟨#[122]⟩ : ByteArray)] 9)).alloc (.cells #[.int .u64 tn, .int .i64 ty, .int .u64 0, .int .u64 0, .int .i64 0, .bool false, .slice (some ⟨w5.heap.size, 0, none⟩) 1 1] 46)) (w5.heap.size + 1) #[.int .u64 tn, .int .i64 ty, .int .u64 0, .int .u64 0, .int .i64 0, .bool false, .slice (some ⟨w5.heap.size, 0, none⟩) 1 1] 46) := blk_two _ _ _ _ _
            have HK2 : Hid (Blk (((w5.alloc (.cells #[.string (⟨#[122]⟩ : ByteArray)] 9)).alloc (.cells #[.int .u64 tn, .int .i64 ty, .int .u64 0, .int .u64 0, .int .i64 0, .bool false, .slice (some ⟨w5.heap.size, 0, none⟩) 1 1] 46)).setCell ⟨b7, 10, none⟩ (.slice (some ⟨w5.heap.size + 1, 0, none⟩) 1 1)) (w5.heap.size + 1) #[.int .u64 tn, .int .i64 ty, .int .u64 0, .int .u64 0, .int .i64 0, .bool false, .slice (some ⟨w5.heap.size, 0, none⟩) 1 1] 46) := HK.out.setOther _ _ (by have := HLT.out; show w5.heap.size + 1 ≠ b7; omega)
            have HAX : Hid (RecV.At (((w5.alloc (.cells #[.string (⟨#[122]⟩ : ByteArray)] 9)).alloc (.cells #[.int .u64 tn, .int .i64 ty, .int .u64 0, .int .u64 0, .int .i64 0, .bool false, .slice (some ⟨w5.heap.size, 0, none⟩) 1 1] 46)).setCell ⟨b7, 10, none⟩ (.slice (some ⟨w5.heap.size + 1, 0, none⟩) 1 1)) (RecV.mk K tn ty (⟨#[]⟩ : ByteArray) false (⟨#[]⟩ : ByteArray) 0 none 0 0 [] none 0 0 [] none 0 0 [] (some ⟨w5.heap.size + 1, 0, none⟩) 1 1 [(OpenV.mk tn ty 0 0 0 false (some ⟨w5.heap.size, 0, none⟩) 1 1 [(⟨#[122]⟩ : ByteArray)])] none 0 0 [])) := ⟨(show ByteArray.size (⟨#[]⟩ : ByteArray) ≤ maxLen by decide), (show ByteArray.size (⟨#[]⟩ : ByteArray) ≤ maxLen by decide), Rd.nil _, Rd.nil _, (fun s hs => nomatch hs), RowsN.nil _ _ _, (fun s hs => nomatch hs), rowsN_one (x := (OpenV.mk tn ty 0 0 0 false (some ⟨w5.heap.size, 0, none⟩) 1 1 [(⟨#[122]⟩ : ByteArray)])) HK2.out, (fun s hs => by rw [List.mem_singleton] at hs; subst hs; exact ⟨HN.out, fun s hs => by rw [List.mem_singleton] at hs; subst hs; decide⟩), RowsN.nil _ _ _, (fun s hs => nomatch hs)⟩
            have HRK : Hid (RK w b7 tn ty (false) (((w5.alloc (.cells #[.string (⟨#[122]⟩ : ByteArray)] 9)).alloc (.cells #[.int .u64 tn, .int .i64 ty, .int .u64 0, .int .u64 0, .int .i64 0, .bool false, .slice (some ⟨w5.heap.size, 0, none⟩) 1 1] 46)).setCell ⟨b7, 10, none⟩ (.slice (some ⟨w5.heap.size + 1, 0, none⟩) 1 1))) := ⟨(RecV.mk K tn ty (⟨#[]⟩ : ByteArray) false (⟨#[]⟩ : ByteArray) 0 none 0 0 [] none 0 0 [] none 0 0 [] (some ⟨w5.heap.size + 1, 0, none⟩) 1 1 [(OpenV.mk tn ty 0 0 0 false (some ⟨w5.heap.size, 0, none⟩) 1 1 [(⟨#[122]⟩ : ByteArray)])] none 0 0 []), HRX.out, HBX.out, HAX.out, HTX.out, HYX.out, HSZ.out⟩
            have z10 : ((w5.alloc (.cells #[.string (⟨#[122]⟩ : ByteArray)] 9)).alloc (.cells #[.int .u64 tn, .int .i64 ty, .int .u64 0, .int .u64 0, .int .i64 0, .bool false, .slice (some ⟨w5.heap.size, 0, none⟩) 1 1] 46)).cell? ⟨b7, 10, none⟩ = some _ := HBA.out.cell 10
            have f10 : ((w5.alloc (.cells #[.string (⟨#[122]⟩ : ByteArray)] 9)).alloc (.cells #[.int .u64 tn, .int .i64 ty, .int .u64 0, .int .u64 0, .int .i64 0, .bool false, .slice (some ⟨w5.heap.size, 0, none⟩) 1 1] 46)).frozen? ⟨b7, 10, none⟩ = false := HBA.out.frozen 10
            clear HRX HBA HTA HYA HBX HTX HYX HAX HLT HN HN0 HK HK2
            have t0 : w5.cell? ⟨w.heap.size, 0, none⟩ = some (.int .u64 tn) := HT5.out.cell 0
            have t1 : w5.cell? ⟨w.heap.size, 1, none⟩ = some (.int .i64 ty) := HT5.out.cell 1
            go_wp2
            go_meet
            case rel => exact ⟨false, by first | rfl | simp, HRK.out⟩
          · have HRX : Hid (rightRec (RecV.mk K tn ty (⟨#[]⟩ : ByteArray) false (⟨#[]⟩ : ByteArray) 0 none 0 0 [] none 0 0 [] none 0 0 [] none 0 0 [] (some ⟨w5.heap.size, 0, none⟩) 1 1 [(DoneV.mk tn ty none 0 0 [])]) = false) := by
              show _ = _
              rw [right_parts]
              rcases HK6.out with rfl | rfl | rfl | rfl | rfl | rfl <;> simp [emp_size, emp_yes, emp_no1, emp_no2, key_k, key_x, reads_ab, nodes_15, HT.out, fit_one doneOk doneLt noDone 200 _ (by omega) (done_ok HT.out _ _ _)]
            have HBA : Hid (Blk (w5.alloc (.cells #[.int .u64 tn, .int .i64 ty, .slice none 0 0] 48)) b7 #[.int .i64 K, .int .u64 tn, .int .i64 ty, .string (⟨#[]⟩ : ByteArray), .bool false, .string (⟨#[]⟩ : ByteArray), .int .u64 0, .slice none 0 0, .slice none 0 0, .slice none 0 0, .slice none 0 0, .slice none 0 0] 36) := HB8.out.alloc _
            have HTA : Hid (Blk (w5.alloc (.cells #[.int .u64 tn, .int .i64 ty, .slice none 0 0] 48)) w.heap.size #[.int .u64 tn, .int .i64 ty] 24) := HT5.out.alloc _
            have HYA : Hid (Below w.heap.size w (w5.alloc (.cells #[.int .u64 tn, .int .i64 ty, .slice none 0 0] 48))) := HY5.out.alloc HY5.out.size _
            have HBX : Hid (Blk ((w5.alloc (.cells #[.int .u64 tn, .int .i64 ty, .slice none 0 0] 48)).setCell ⟨b7, 11, none⟩ (.slice (some ⟨w5.heap.size, 0, none⟩) 1 1)) b7 #[.int .i64 K, .int .u64 tn, .int .i64 ty, .string (⟨#[]⟩ : ByteArray), .bool false, .string (⟨#[]⟩ : ByteArray), .int .u64 0, .slice none 0 0, .slice none 0 0, .slice none 0 0, .slice none 0 0, .slice (some ⟨w5.heap.size, 0, none⟩) 1 1] 36) := by show Blk _ _ _ _; have := HBA.out.set 11 (.slice (some ⟨w5.heap.size, 0, none⟩) 1 1); simpa using this
            have HTX : Hid (Blk ((w5.alloc (.cells #[.int .u64 tn, .int .i64 ty, .slice none 0 0] 48)).setCell ⟨b7, 11, none⟩ (.slice (some ⟨w5.heap.size, 0, none⟩) 1 1)) w.heap.size #[.int .u64 tn, .int .i64 ty] 24) := HTA.out.setOther _ _ (by have := HSZ.out; omega)
            have HYX : Hid (Below w.heap.size w ((w5.alloc (.cells #[.int .u64 tn, .int .i64 ty, .slice none 0 0] 48)).setCell ⟨b7, 11, none⟩ (.slice (some ⟨w5.heap.size, 0, none⟩) 1 1))) := HYA.out.setCell (by have := HSZ.out; show _ ≤ b7; omega) _
            have HLT : Hid (b7 < w5.heap.size) := HB8.out.lt
            have HK : Hid (Blk (w5.alloc (.cells #[.int .u64 tn, .int .i64 ty, .slice none 0 0] 48)) w5.heap.size #[.int .u64 tn, .int .i64 ty, .slice none 0 0] 48) := Blk.new _ _ _
            have HK2 : Hid (Blk ((w5.alloc (.cells #[.int .u64 tn, .int .i64 ty, .slice none 0 0] 48)).setCell ⟨b7, 11, none⟩ (.slice (some ⟨w5.heap.size, 0, none⟩) 1 1)) w5.heap.size #[.int .u64 tn, .int .i64 ty, .slice none 0 0] 48) := HK.out.setOther _ _ (by have := HLT.out; show w5.heap.size ≠ b7; omega)
            have HAX : Hid (RecV.At ((w5.alloc (.cells #[.int .u64 tn, .int .i64 ty, .slice none 0 0] 48)).setCell ⟨b7, 11, none⟩ (.slice (some ⟨w5.heap.size, 0, none⟩) 1 1)) (RecV.mk K tn ty (⟨#[]⟩ : ByteArray) false (⟨#[]⟩ : ByteArray) 0 none 0 0 [] none 0 0 [] none 0 0 [] none 0 0 [] (some ⟨w5.heap.size, 0, none⟩) 1 1 [(DoneV.mk tn ty none 0 0 [])])) := ⟨(show ByteArray.size (⟨#[]⟩ : ByteArray) ≤ maxLen by decide), (show ByteArray.size (⟨#[]⟩ : ByteArray) ≤ maxLen by decide), Rd.nil _, Rd.nil _, (fun s hs => nomatch hs), RowsN.nil _ _ _, (fun s hs => nomatch hs), RowsN.nil _ _ _, (fun s hs => nomatch hs), rowsN_one (x := (DoneV.mk tn ty none 0 0 [])) HK2.out, (fun s hs => by rw [List.mem_singleton] at hs; subst hs; exact ⟨Rd.nil _⟩)⟩
            have HRK : Hid (RK w b7 tn ty (false) ((w5.alloc (.cells #[.int .u64 tn, .int .i64 ty, .slice none 0 0] 48)).setCell ⟨b7, 11, none⟩ (.slice (some ⟨w5.heap.size, 0, none⟩) 1 1))) := ⟨(RecV.mk K tn ty (⟨#[]⟩ : ByteArray) false (⟨#[]⟩ : ByteArray) 0 none 0 0 [] none 0 0 [] none 0 0 [] none 0 0 [] (some ⟨w5.heap.size, 0, none⟩) 1 1 [(DoneV.mk tn ty none 0 0 [])]), HRX.out, HBX.out, HAX.out, HTX.out, HYX.out, HSZ.out⟩
            have z11 : (w5.alloc (.cells #[.int .u64 tn, .int .i64 ty, .slice none 0 0] 48)).cell? ⟨b7, 11, none⟩ = some _ := HBA.out.cell 11
            have f11 : (w5.alloc (.cells #[.int .u64 tn, .int .i64 ty, .slice none 0 0] 48)).frozen? ⟨b7, 11, none⟩ = false := HBA.out.frozen 11
            clear HRX HBA HTA HYA HBX HTX HYX HAX HLT HK HK2
            have t0 : w5.cell? ⟨w.heap.size, 0, none⟩ = some (.int .u64 tn) := HT5.out.cell 0
            have t1 : w5.cell? ⟨w.heap.size, 1, none⟩ = some (.int .i64 ty) := HT5.out.cell 1
            go_wp2
            go_meet
            case rel => exact ⟨false, by first | rfl | simp, HRK.out⟩
          · have HRX : Hid (rightRec (RecV.mk K tn ty (⟨#[]⟩ : ByteArray) false (⟨#[120]⟩ : ByteArray) 0 none 0 0 [] none 0 0 [] none 0 0 [] none 0 0 [] none 0 0 []) = false) := by
              show _ = _
              rw [right_parts]
              rcases HK6.out with rfl | rfl | rfl | rfl | rfl | rfl <;> simp [emp_size, emp_yes, emp_no1, emp_no2, key_k, key_x, reads_ab, nodes_15, HT.out]
            have hsz : w5.heap.size ≤ w5.heap.size := Nat.le_refl _
            have HBA : Hid (Blk w5 b7 #[.int .i64 K, .int .u64 tn, .int .i64 ty, .string (⟨#[]⟩ : ByteArray), .bool false, .string (⟨#[]⟩ : ByteArray), .int .u64 0, .slice none 0 0, .slice none 0 0, .slice none 0 0, .slice none 0 0, .slice none 0 0] 36) := HB8
            have HTA := HT5
            have HYA := HY5
            have HBX : Hid (Blk (w5.setCell ⟨b7, 5, none⟩ (.string (⟨#[120]⟩ : ByteArray))) b7 #[.int .i64 K, .int .u64 tn, .int .i64 ty, .string (⟨#[]⟩ : ByteArray), .bool false, .string (⟨#[120]⟩ : ByteArray), .int .u64 0, .slice none 0 0, .slice none 0 0, .slice none 0 0, .slice none 0 0, .slice none 0 0] 36) := by show Blk _ _ _ _; have := HBA.out.set 5 (.string (⟨#[120]⟩ : ByteArray)); simpa using this
            have HTX : Hid (Blk (w5.setCell ⟨b7, 5, none⟩ (.string (⟨#[120]⟩ : ByteArray))) w.heap.size #[.int .u64 tn, .int .i64 ty] 24) := HTA.out.setOther _ _ (by have := HSZ.out; omega)
            have HYX : Hid (Below w.heap.size w (w5.setCell ⟨b7, 5, none⟩ (.string (⟨#[120]⟩ : ByteArray)))) := HYA.out.setCell (by have := HSZ.out; show _ ≤ b7; omega) _
            have HLT : Hid (b7 < w5.heap.size) := HB8.out.lt
            have HAX : Hid (RecV.At (w5.setCell ⟨b7, 5, none⟩ (.string (⟨#[120]⟩ : ByteArray))) (RecV.mk K tn ty (⟨#[]⟩ : ByteArray) false (⟨#[120]⟩ : ByteArray) 0 none 0 0 [] none 0 0 [] none 0 0 [] none 0 0 [] none 0 0 [])) := ⟨(show ByteArray.size (⟨#[]⟩ : ByteArray) ≤ maxLen by decide), (show ByteArray.size (⟨#[120]⟩ : ByteArray) ≤ maxLen by decide), Rd.nil _, Rd.nil _, (fun s hs => nomatch hs), RowsN.nil _ _ _, (fun s hs => nomatch hs), RowsN.nil _ _ _, (fun s hs => nomatch hs), RowsN.nil _ _ _, (fun s hs => nomatch hs)⟩
            have HRK : Hid (RK w b7 tn ty (false) (w5.setCell ⟨b7, 5, none⟩ (.string (⟨#[120]⟩ : ByteArray)))) := ⟨(RecV.mk K tn ty (⟨#[]⟩ : ByteArray) false (⟨#[120]⟩ : ByteArray) 0 none 0 0 [] none 0 0 [] none 0 0 [] none 0 0 [] none 0 0 []), HRX.out, HBX.out, HAX.out, HTX.out, HYX.out, HSZ.out⟩
            have z5 : w5.cell? ⟨b7, 5, none⟩ = some _ := HBA.out.cell 5
            have f5 : w5.frozen? ⟨b7, 5, none⟩ = false := HBA.out.frozen 5
            clear HRX HBA HTA HYA HBX HTX HYX HAX HLT hsz
            go_wp2
            go_meet
            case rel => exact ⟨false, by first | rfl | simp, HRK.out⟩
        case rest =>
        obtain ⟨b, rfl, hrk⟩ := hcut
        rename World => w6
        obtain ⟨x, hx, hb, ha, ht, hy, hlt⟩ := hrk
        have HXR : Hid (rightRec x = b) := hx
        have HB6 : Hid (Blk w6 b7 #[.int .i64 x.kind, .int .u64 x.num, .int .i64 x.node, .string x.key, .bool x.was, .string x.old, .int .u64 x.prev, .slice x.na x.nn x.nc, .slice x.ra x.rn x.rc, .slice x.ga x.gn x.gc, .slice x.oa x.om x.oc, .slice x.da x.dn x.dc] 36) := hb
        have HA6 : Hid (x.At w6) := ha
        have HY6 : Hid (Below w.heap.size w w6) := hy
        have t0 : w6.cell? ⟨w.heap.size, 0, none⟩ = some (.int .u64 tn) := Blk.cell ht 0
        have t1 : w6.cell? ⟨w.heap.size, 1, none⟩ = some (.int .i64 ty) := Blk.cell ht 1
        clear hx hb ha ht hy hlt HB8 HT5 HY5
        have HX7 : Hid (Below w6.heap.size w6 ((w6.alloc (.cells #[.string (⟨#[122]⟩ : ByteArray)] 9)).alloc (.cells #[.int .u64 tn, .int .i64 ty, .int .u64 0, .int .u64 0, .int .i64 0, .bool false, .slice (some ⟨w6.heap.size, 0, none⟩) 1 1] 46))) := (below_allocR _).trans ((below_allocR _).mono (by simp))
        have HN7 : Hid (Rd ((w6.alloc (.cells #[.string (⟨#[122]⟩ : ByteArray)] 9)).alloc (.cells #[.int .u64 tn, .int .i64 ty, .int .u64 0, .int .u64 0, .int .i64 0, .bool false, .slice (some ⟨w6.heap.size, 0, none⟩) 1 1] 46)) (.slice (some ⟨w6.heap.size, 0, none⟩) 1 1) (sv [(⟨#[122]⟩ : ByteArray)])) := (OwnV.below (World.ownsRow_lit w6 #[.string (⟨#[122]⟩ : ByteArray)] 1 (Nat.le_refl _) (by simp [maxLen]) rfl : OwnV (w6.alloc (.cells #[.string (⟨#[122]⟩ : ByteArray)] 9)) w6.heap.size 9 (.slice (some ⟨w6.heap.size, 0, none⟩) 1 1) (sv [(⟨#[122]⟩ : ByteArray)])) (below_allocR _)).rd
        have HO7 : Hid (Blk ((w6.alloc (.cells #[.string (⟨#[122]⟩ : ByteArray)] 9)).alloc (.cells #[.int .u64 tn, .int .i64 ty, .int .u64 0, .int .u64 0, .int .i64 0, .bool false, .slice (some ⟨w6.heap.size, 0, none⟩) 1 1] 46)) (w6.heap.size + 1) #[.int .u64 tn, .int .i64 ty, .int .u64 0, .int .u64 0, .int .i64 0, .bool false, .slice (some ⟨w6.heap.size, 0, none⟩) 1 1] 46) := blk_two _ _ _ _ _
        have HB7 : Hid (Blk ((w6.alloc (.cells #[.string (⟨#[122]⟩ : ByteArray)] 9)).alloc (.cells #[.int .u64 tn, .int .i64 ty, .int .u64 0, .int .u64 0, .int .i64 0, .bool false, .slice (some ⟨w6.heap.size, 0, none⟩) 1 1] 46)) b7 #[.int .i64 x.kind, .int .u64 x.num, .int .i64 x.node, .string x.key, .bool x.was, .string x.old, .int .u64 x.prev, .slice x.na x.nn x.nc, .slice x.ra x.rn x.rc, .slice x.ga x.gn x.gc, .slice x.oa x.om x.oc, .slice x.da x.dn x.dc] 36) := Blk.of HB6.out (HX7.out.block _ HB6.out.lt)
        have HA7 : Hid (x.At ((w6.alloc (.cells #[.string (⟨#[122]⟩ : ByteArray)] 9)).alloc (.cells #[.int .u64 tn, .int .i64 ty, .int .u64 0, .int .u64 0, .int .i64 0, .bool false, .slice (some ⟨w6.heap.size, 0, none⟩) 1 1] 46))) := HA6.out.below HX7.out
        have HY7 : Hid (Below w.heap.size w ((w6.alloc (.cells #[.string (⟨#[122]⟩ : ByteArray)] 9)).alloc (.cells #[.int .u64 tn, .int .i64 ty, .int .u64 0, .int .u64 0, .int .i64 0, .bool false, .slice (some ⟨w6.heap.size, 0, none⟩) 1 1] 46))) := ext_trans HY6.out HX7.out
        have HL7 : Hid (b7 < w6.heap.size) := HB6.out.lt
        go_upto_region 39 with fail
        generalize ((w6.alloc (.cells #[.string (⟨#[122]⟩ : ByteArray)] 9)).alloc (.cells #[.int .u64 tn, .int .i64 ty, .int .u64 0, .int .u64 0, .int .i64 0, .bool false, .slice (some ⟨w6.heap.size, 0, none⟩) 1 1] 46)) = w7 at *
        clear t0 t1 HB6 HA6 HY6 HX7
        obtain ⟨r7, hr7⟩ : ∃ r, w6.heap.size = r := ⟨_, rfl⟩
        rw [hr7] at HN7 HO7 HL7 ⊢
        clear hr7
        have HCL : Hid (∀ W, Below w7.heap.size w7 W → Calls Try.prog 19 #[.agg #[.int .u64 tn, .int .i64 ty, .int .u64 0, .int .u64 0, .int .i64 0, .bool false, .slice (some ⟨r7, 0, none⟩) 1 1]] W fun e w' => ∃ a n c, e = .returned (.agg #[.int .u64 tn, .int .i64 ty, .int .u64 0, .int .u64 0, .int .i64 0, .bool false, .slice a n c]) ∧ OwnV w' (W.heap.size + 2) 9 (.slice a n c) (sv [(⟨#[122]⟩ : ByteArray)]) ∧ Below W.heap.size W w') := fun W hb => openClone_any (OpenV.mk tn ty 0 0 0 false (some ⟨r7, 0, none⟩) 1 1 [(⟨#[122]⟩ : ByteArray)]) W ⟨HN7.out.below hb, fun s hs => by rw [List.mem_singleton] at hs; subst hs; decide⟩ (by simp)
        have o0 : w7.cell? ⟨r7 + 1, 0, none⟩ = some _ := HO7.out.cell 0
        have o1 : w7.cell? ⟨r7 + 1, 1, none⟩ = some _ := HO7.out.cell 1
        have o2 : w7.cell? ⟨r7 + 1, 2, none⟩ = some _ := HO7.out.cell 2
        have o3 : w7.cell? ⟨r7 + 1, 3, none⟩ = some _ := HO7.out.cell 3
        have o4 : w7.cell? ⟨r7 + 1, 4, none⟩ = some _ := HO7.out.cell 4
        have o5 : w7.cell? ⟨r7 + 1, 5, none⟩ = some _ := HO7.out.cell 5
        have o6 : w7.cell? ⟨r7 + 1, 6, none⟩ = some _ := HO7.out.cell 6
        go_wp2_with fail
        refine (HCL.out _ (Below.refl _ _)).mono ?_
        rintro e w8 ⟨a8, n8, c8, rfl, ho, y⟩
        clear o0 o1 o2 o3 o4 o5 o6
        obtain ⟨g, cap, hv, hg, hcs, cur8, hbk⟩ := own_set1 (i := 0) ho (by simp) (⟨#[121]⟩ : ByteArray)
        obtain ⟨h1, h2, h3⟩ : a8 = some ⟨g, 0, none⟩ ∧ n8 = 1 ∧ c8 = cap := by cases hv; exact ⟨rfl, rfl, rfl⟩
        subst h1 h2 h3
        have HGB : Hid (w7.heap.size ≤ g) := by show _ ≤ _; omega
        obtain ⟨u8, hu8⟩ := Option.isSome_iff_exists.1 hcs
        have HX8 : Hid (Below w7.heap.size w7 w8) := y
        clear ho y hcs hg hv
        have HX9 : Hid (Below w7.heap.size w7 ((w8.alloc (.cells #[.int .u64 tn, .int .i64 ty, .int .u64 0, .int .u64 0, .int .i64 0, .bool false, .slice (some ⟨g, 0, none⟩) 1 c8] 46)).setCell ⟨g, 0, none⟩ (.string (⟨#[121]⟩ : ByteArray)))) := (HX8.out.alloc HX8.out.size _).setCell (by show _ ≤ g; exact HGB.out) _
        have e1 : (w8.alloc (.cells #[.int .u64 tn, .int .i64 ty, .int .u64 0, .int .u64 0, .int .i64 0, .bool false, .slice (some ⟨g, 0, none⟩) 1 c8] 46)).cell? ⟨w8.heap.size, 6, none⟩ = some (.slice (some ⟨g, 0, none⟩) 1 c8) := (Blk.new w8 #[.int .u64 tn, .int .i64 ty, .int .u64 0, .int .u64 0, .int .i64 0, .bool false, .slice (some ⟨g, 0, none⟩) 1 c8] 46).cell 6
        have e2 : (w8.alloc (.cells #[.int .u64 tn, .int .i64 ty, .int .u64 0, .int .u64 0, .int .i64 0, .bool false, .slice (some ⟨g, 0, none⟩) 1 c8] 46)).cell? ⟨g, 0, none⟩ = some u8 := (Below.cell (below_allocR (W := w8) _) (World.block_lt_of_cell? w8 _ hu8)).trans hu8
        have e3 : (w8.alloc (.cells #[.int .u64 tn, .int .i64 ty, .int .u64 0, .int .u64 0, .int .i64 0, .bool false, .slice (some ⟨g, 0, none⟩) 1 c8] 46)).frozen? ⟨g, 0, none⟩ = false := (hbk.alloc _).frozen 0
        clear hu8 hbk
        go_upto_region 41 with fail
        generalize ((w8.alloc (.cells #[.int .u64 tn, .int .i64 ty, .int .u64 0, .int .u64 0, .int .i64 0, .bool false, .slice (some ⟨g, 0, none⟩) 1 c8] 46)).setCell ⟨g, 0, none⟩ (.string (⟨#[121]⟩ : ByteArray))) = w9 at *
        clear e1 e2 e3 HX8 HGB
        have HB9 : Hid (Blk w9 b7 #[.int .i64 x.kind, .int .u64 x.num, .int .i64 x.node, .string x.key, .bool x.was, .string x.old, .int .u64 x.prev, .slice x.na x.nn x.nc, .slice x.ra x.rn x.rc, .slice x.ga x.gn x.gc, .slice x.oa x.om x.oc, .slice x.da x.dn x.dc] 36) := Blk.of HB7.out (HX9.out.block _ HB7.out.lt)
        have HO9 : Hid (Blk w9 (r7 + 1) #[.int .u64 tn, .int .i64 ty, .int .u64 0, .int .u64 0, .int .i64 0, .bool false, .slice (some ⟨r7, 0, none⟩) 1 1] 46) := Blk.of HO7.out (HX9.out.block _ HO7.out.lt)
        have HA9 : Hid (x.At w9) := HA7.out.below HX9.out
        have HN9 : Hid (Rd w9 (.slice (some ⟨r7, 0, none⟩) 1 1) (sv [(⟨#[122]⟩ : ByteArray)])) := HN7.out.below HX9.out
        have HY9 : Hid (Below w.heap.size w w9) := ext_trans HY7.out HX9.out
        clear HB7 HO7 HA7 HN7 HY7 HX9
        refine wp_region_ext (by kernel_rfl) ?_
        have HB0 : Hid (Blk w9.drew b7 #[.int .i64 x.kind, .int .u64 x.num, .int .i64 x.node, .string x.key, .bool x.was, .string x.old, .int .u64 x.prev, .slice x.na x.nn x.nc, .slice x.ra x.rn x.rc, .slice x.ga x.gn x.gc, .slice x.oa x.om x.oc, .slice x.da x.dn x.dc] 36) := HB9.out
        have HO0 : Hid (Blk w9.drew (r7 + 1) #[.int .u64 tn, .int .i64 ty, .int .u64 0, .int .u64 0, .int .i64 0, .bool false, .slice (some ⟨r7, 0, none⟩) 1 1] 46) := HO9.out
        have HN0 : Hid (Rd w9.drew (.slice (some ⟨r7, 0, none⟩) 1 1) (sv [(⟨#[122]⟩ : ByteArray)])) := HN9.out.below (Below.drew (Below.refl _ _))
        have HA0 : Hid (x.At w9.drew) := HA9.out.below (Below.drew (Below.refl _ _))
        have HY0 : Hid (Below w.heap.size w w9.drew) := Below.drew HY9.out
        have HE0 : Hid (Below w7.heap.size w7 w7) := Below.refl _ _
        clear HB9 HO9 HN9 HA9 HY9 HE0
        haveI nA := cls_ext w9.drew
        have q0 := cellX (W0 := w9.drew) (show (w9.drew).cell? ⟨b7, 0, none⟩ = some (.int .i64 x.kind) from HB0.out.cell 0)
        have q1 := cellX (W0 := w9.drew) (show (w9.drew).cell? ⟨b7, 1, none⟩ = some (.int .u64 x.num) from HB0.out.cell 1)
        have q2 := cellX (W0 := w9.drew) (show (w9.drew).cell? ⟨b7, 2, none⟩ = some (.int .i64 x.node) from HB0.out.cell 2)
        have q3 := cellX (W0 := w9.drew) (show (w9.drew).cell? ⟨b7, 3, none⟩ = some (.string x.key) from HB0.out.cell 3)
        have q4 := cellX (W0 := w9.drew) (show (w9.drew).cell? ⟨b7, 4, none⟩ = some (.bool x.was) from HB0.out.cell 4)
        have q5 := cellX (W0 := w9.drew) (show (w9.drew).cell? ⟨b7, 5, none⟩ = some (.string x.old) from HB0.out.cell 5)
        have q6 := cellX (W0 := w9.drew) (show (w9.drew).cell? ⟨b7, 6, none⟩ = some (.int .u64 x.prev) from HB0.out.cell 6)
        have q7 := cellX (W0 := w9.drew) (show (w9.drew).cell? ⟨b7, 7, none⟩ = some (.slice x.na x.nn x.nc) from HB0.out.cell 7)
        have q8 := cellX (W0 := w9.drew) (show (w9.drew).cell? ⟨b7, 8, none⟩ = some (.slice x.ra x.rn x.rc) from HB0.out.cell 8)
        have q9 := cellX (W0 := w9.drew) (show (w9.drew).cell? ⟨b7, 9, none⟩ = some (.slice x.ga x.gn x.gc) from HB0.out.cell 9)
        have q10 := cellX (W0 := w9.drew) (show (w9.drew).cell? ⟨b7, 10, none⟩ = some (.slice x.oa x.om x.oc) from HB0.out.cell 10)
        have q11 := cellX (W0 := w9.drew) (show (w9.drew).cell? ⟨b7, 11, none⟩ = some (.slice x.da x.dn x.dc) from HB0.out.cell 11)
        have p0 := cellX (W0 := w9.drew) (show (w9.drew).cell? ⟨r7 + 1, 0, none⟩ = some _ from HO0.out.cell 0)
        have p1 := cellX (W0 := w9.drew) (show (w9.drew).cell? ⟨r7 + 1, 1, none⟩ = some _ from HO0.out.cell 1)
        have p2 := cellX (W0 := w9.drew) (show (w9.drew).cell? ⟨r7 + 1, 2, none⟩ = some _ from HO0.out.cell 2)
        have p3 := cellX (W0 := w9.drew) (show (w9.drew).cell? ⟨r7 + 1, 3, none⟩ = some _ from HO0.out.cell 3)
        have p4 := cellX (W0 := w9.drew) (show (w9.drew).cell? ⟨r7 + 1, 4, none⟩ = some _ from HO0.out.cell 4)
        have p5 := cellX (W0 := w9.drew) (show (w9.drew).cell? ⟨r7 + 1, 5, none⟩ = some _ from HO0.out.cell 5)
        have p6 := cellX (W0 := w9.drew) (show (w9.drew).cell? ⟨r7 + 1, 6, none⟩ = some _ from HO0.out.cell 6)
        have pz := cellX (W0 := w9.drew) (show (w9.drew).cell? ⟨r7, 0, none⟩ = some (.string (⟨#[122]⟩ : ByteArray)) from by have := HN0.out.at.2.2.2.str (j := 0) rfl (by simp); simpa [Addr.add] using this)
        refine wpAnyH_seg (by kernel_rfl) (fun _ _ _ h => h) [0, 2] 16 _ _ _ (Ext.refl _) (by kernel_rfl) ?_
        simp only [opsAt, List.getElem?_toArray, List.getElem?_cons_zero, List.getElem?_cons_succ, List.cons_append, List.nil_append]
        repeat (go_big_quiet_step (fail))
        refine wpQuiet_nil ?_
        clear nA pz q0 q1 q2 q3 q4 q5 q6 q7 q8 q9 q10 q11 p0 p1 p2 p3 p4 p5 p6
        have HRR : Hid (Calls Try.prog 18 #[.agg #[.int .i64 x.kind, .int .u64 x.num, .int .i64 x.node, .string x.key, .bool x.was, .string x.old, .int .u64 x.prev, .slice x.na x.nn x.nc, .slice x.ra x.rn x.rc, .slice x.ga x.gn x.gc, .slice x.oa x.om x.oc, .slice x.da x.dn x.dc]] w9.drew fun e w' => e = .returned (.bool b) ∧ Below w9.drew.heap.size w9.drew w') := by have := recRight_any x w9.drew HA0.out; rw [HXR.out] at this; exact this
        refine wpAnyH_callE (i := 1) (fuel := 15) 88 rfl (by kernel_rfl) rfl (Ext.refl _) (by kernel_rfl) (f := 18) (args := #[.agg #[.int .i64 x.kind, .int .u64 x.num, .int .i64 x.node, .string x.key, .bool x.was, .string x.old, .int .u64 x.prev, .slice x.na x.nn x.nc, .slice x.ra x.rn x.rc, .slice x.ga x.gn x.gc, .slice x.oa x.om x.oc, .slice x.da x.dn x.dc]]) (by kernel_rfl) HRR.out ?_
        rintro e x1 ⟨rfl, y⟩
        refine ⟨_, rfl, y, ?_⟩
        clear HRR
        have HB1 : Hid (Blk x1 b7 #[.int .i64 x.kind, .int .u64 x.num, .int .i64 x.node, .string x.key, .bool x.was, .string x.old, .int .u64 x.prev, .slice x.na x.nn x.nc, .slice x.ra x.rn x.rc, .slice x.ga x.gn x.gc, .slice x.oa x.om x.oc, .slice x.da x.dn x.dc] 36) := Blk.of HB0.out (y.block _ HB0.out.lt)
        have HO1 : Hid (Blk x1 (r7 + 1) #[.int .u64 tn, .int .i64 ty, .int .u64 0, .int .u64 0, .int .i64 0, .bool false, .slice (some ⟨r7, 0, none⟩) 1 1] 46) := Blk.of HO0.out (y.block _ HO0.out.lt)
        have HN1 : Hid (Rd x1 (.slice (some ⟨r7, 0, none⟩) 1 1) (sv [(⟨#[122]⟩ : ByteArray)])) := HN0.out.below y
        have HA1 : Hid (x.At x1) := HA0.out.below y
        have HY1 : Hid (Below w.heap.size w x1) := ext_trans HY0.out y
        clear HB0 HO0 HN0 HA0 HY0 y
        simp only [Act.put, List.setIfInBounds_toArray, List.set_cons_succ, List.set_cons_zero]
        haveI nA := cls_ext x1
        have q0 := cellX (W0 := x1) (show (x1).cell? ⟨b7, 0, none⟩ = some (.int .i64 x.kind) from HB1.out.cell 0)
        have q1 := cellX (W0 := x1) (show (x1).cell? ⟨b7, 1, none⟩ = some (.int .u64 x.num) from HB1.out.cell 1)
        have q2 := cellX (W0 := x1) (show (x1).cell? ⟨b7, 2, none⟩ = some (.int .i64 x.node) from HB1.out.cell 2)
        have q3 := cellX (W0 := x1) (show (x1).cell? ⟨b7, 3, none⟩ = some (.string x.key) from HB1.out.cell 3)
        have q4 := cellX (W0 := x1) (show (x1).cell? ⟨b7, 4, none⟩ = some (.bool x.was) from HB1.out.cell 4)
        have q5 := cellX (W0 := x1) (show (x1).cell? ⟨b7, 5, none⟩ = some (.string x.old) from HB1.out.cell 5)
        have q6 := cellX (W0 := x1) (show (x1).cell? ⟨b7, 6, none⟩ = some (.int .u64 x.prev) from HB1.out.cell 6)
        have q7 := cellX (W0 := x1) (show (x1).cell? ⟨b7, 7, none⟩ = some (.slice x.na x.nn x.nc) from HB1.out.cell 7)
        have q8 := cellX (W0 := x1) (show (x1).cell? ⟨b7, 8, none⟩ = some (.slice x.ra x.rn x.rc) from HB1.out.cell 8)
        have q9 := cellX (W0 := x1) (show (x1).cell? ⟨b7, 9, none⟩ = some (.slice x.ga x.gn x.gc) from HB1.out.cell 9)
        have q10 := cellX (W0 := x1) (show (x1).cell? ⟨b7, 10, none⟩ = some (.slice x.oa x.om x.oc) from HB1.out.cell 10)
        have q11 := cellX (W0 := x1) (show (x1).cell? ⟨b7, 11, none⟩ = some (.slice x.da x.dn x.dc) from HB1.out.cell 11)
        have p0 := cellX (W0 := x1) (show (x1).cell? ⟨r7 + 1, 0, none⟩ = some _ from HO1.out.cell 0)
        have p1 := cellX (W0 := x1) (show (x1).cell? ⟨r7 + 1, 1, none⟩ = some _ from HO1.out.cell 1)
        have p2 := cellX (W0 := x1) (show (x1).cell? ⟨r7 + 1, 2, none⟩ = some _ from HO1.out.cell 2)
        have p3 := cellX (W0 := x1) (show (x1).cell? ⟨r7 + 1, 3, none⟩ = some _ from HO1.out.cell 3)
        have p4 := cellX (W0 := x1) (show (x1).cell? ⟨r7 + 1, 4, none⟩ = some _ from HO1.out.cell 4)
        have p5 := cellX (W0 := x1) (show (x1).cell? ⟨r7 + 1, 5, none⟩ = some _ from HO1.out.cell 5)
        have p6 := cellX (W0 := x1) (show (x1).cell? ⟨r7 + 1, 6, none⟩ = some _ from HO1.out.cell 6)
        have pz := cellX (W0 := x1) (show (x1).cell? ⟨r7, 0, none⟩ = some (.string (⟨#[122]⟩ : ByteArray)) from by have := HN1.out.at.2.2.2.str (j := 0) rfl (by simp); simpa [Addr.add] using this)
        refine wpAnyH_seg (by kernel_rfl) (fun _ _ _ h => h) [3, 4, 5, 6, 7, 8, 9, 10, 11, 12, 13] 4 _ _ _ (Ext.refl _) (by kernel_rfl) ?_
        simp only [opsAt, List.getElem?_toArray, List.getElem?_cons_zero, List.getElem?_cons_succ, List.cons_append, List.nil_append]
        repeat (go_big_quiet_step (fail))
        refine wpQuiet_nil ?_
        clear nA pz q0 q1 q2 q3 q4 q5 q6 q7 q8 q9 q10 q11 p0 p1 p2 p3 p4 p5 p6
        have HC2 : Hid (Calls Try.prog 19 #[.agg #[.int .u64 tn, .int .i64 ty, .int .u64 0, .int .u64 0, .int .i64 0, .bool false, .slice (some ⟨r7, 0, none⟩) 1 1]] x1 fun e w' => ∃ a n c, e = .returned (.agg #[.int .u64 tn, .int .i64 ty, .int .u64 0, .int .u64 0, .int .i64 0, .bool false, .slice a n c]) ∧ OwnV w' (x1.heap.size + 2) 9 (.slice a n c) (sv [(⟨#[122]⟩ : ByteArray)]) ∧ Below x1.heap.size x1 w') := openClone_any (OpenV.mk tn ty 0 0 0 false (some ⟨r7, 0, none⟩) 1 1 [(⟨#[122]⟩ : ByteArray)]) x1 ⟨HN1.out, fun s hs => by rw [List.mem_singleton] at hs; subst hs; decide⟩ (by simp)
        refine wpAnyH_callE (i := 14) (fuel := 3) 101 rfl (by kernel_rfl) rfl (Ext.refl _) (by kernel_rfl) (f := 19) (args := #[.agg #[.int .u64 tn, .int .i64 ty, .int .u64 0, .int .u64 0, .int .i64 0, .bool false, .slice (some ⟨r7, 0, none⟩) 1 1]]) (by kernel_rfl) HC2.out ?_
        rintro e x2 ⟨a9, n9, c9, rfl, ho, y⟩
        refine ⟨_, rfl, y, ?_⟩
        have HQ : Hid (Rd x2 (.slice a9 n9 c9) (sv [(⟨#[122]⟩ : ByteArray)])) := ho.rd
        clear ho HC2
        have HB2 : Hid (Blk x2 b7 #[.int .i64 x.kind, .int .u64 x.num, .int .i64 x.node, .string x.key, .bool x.was, .string x.old, .int .u64 x.prev, .slice x.na x.nn x.nc, .slice x.ra x.rn x.rc, .slice x.ga x.gn x.gc, .slice x.oa x.om x.oc, .slice x.da x.dn x.dc] 36) := Blk.of HB1.out (y.block _ HB1.out.lt)
        have HO2 : Hid (Blk x2 (r7 + 1) #[.int .u64 tn, .int .i64 ty, .int .u64 0, .int .u64 0, .int .i64 0, .bool false, .slice (some ⟨r7, 0, none⟩) 1 1] 46) := Blk.of HO1.out (y.block _ HO1.out.lt)
        have HN2 : Hid (Rd x2 (.slice (some ⟨r7, 0, none⟩) 1 1) (sv [(⟨#[122]⟩ : ByteArray)])) := HN1.out.below y
        have HA2 : Hid (x.At x2) := HA1.out.below y
        have HY2 : Hid (Below w.heap.size w x2) := ext_trans HY1.out y
        clear HB1 HO1 HN1 HA1 HY1 y
        simp only [Act.put, List.setIfInBounds_toArray, List.set_cons_succ, List.set_cons_zero]
        have HAL : Hid (Calls Try.prog 20 #[.agg #[.int .u64 tn, .int .i64 ty, .int .u64 0, .int .u64 0, .int .i64 0, .bool false, .slice (some ⟨r7, 0, none⟩) 1 1], .agg #[.int .u64 tn, .int .i64 ty, .int .u64 0, .int .u64 0, .int .i64 0, .bool false, .slice a9 n9 c9]] x2 fun e w' => e = .returned (.bool true) ∧ Below x2.heap.size x2 w') := alike_same (OpenV.mk tn ty 0 0 0 false (some ⟨r7, 0, none⟩) 1 1 [(⟨#[122]⟩ : ByteArray)]) a9 n9 c9 x2 HN2.out HQ.out
        refine wpAnyH_callE (i := 15) (fuel := 2) 102 rfl (by kernel_rfl) rfl (Ext.refl _) (by kernel_rfl) (f := 20) (args := #[.agg #[.int .u64 tn, .int .i64 ty, .int .u64 0, .int .u64 0, .int .i64 0, .bool false, .slice (some ⟨r7, 0, none⟩) 1 1], .agg #[.int .u64 tn, .int .i64 ty, .int .u64 0, .int .u64 0, .int .i64 0, .bool false, .slice a9 n9 c9]]) (by kernel_rfl) HAL.out ?_
        rintro e x3 ⟨rfl, y⟩
        refine ⟨_, rfl, y, ?_⟩
        clear HAL HQ
        have HB3 : Hid (Blk x3 b7 #[.int .i64 x.kind, .int .u64 x.num, .int .i64 x.node, .string x.key, .bool x.was, .string x.old, .int .u64 x.prev, .slice x.na x.nn x.nc, .slice x.ra x.rn x.rc, .slice x.ga x.gn x.gc, .slice x.oa x.om x.oc, .slice x.da x.dn x.dc] 36) := Blk.of HB2.out (y.block _ HB2.out.lt)
        have HO3 : Hid (Blk x3 (r7 + 1) #[.int .u64 tn, .int .i64 ty, .int .u64 0, .int .u64 0, .int .i64 0, .bool false, .slice (some ⟨r7, 0, none⟩) 1 1] 46) := Blk.of HO2.out (y.block _ HO2.out.lt)
        have HN3 : Hid (Rd x3 (.slice (some ⟨r7, 0, none⟩) 1 1) (sv [(⟨#[122]⟩ : ByteArray)])) := HN2.out.below y
        have HA3 : Hid (x.At x3) := HA2.out.below y
        have HY3 : Hid (Below w.heap.size w x3) := ext_trans HY2.out y
        clear HB2 HO2 HN2 HA2 HY2 y
        simp only [Act.put, List.setIfInBounds_toArray, List.set_cons_succ, List.set_cons_zero]
        haveI nA := cls_ext x3
        have q0 := cellX (W0 := x3) (show (x3).cell? ⟨b7, 0, none⟩ = some (.int .i64 x.kind) from HB3.out.cell 0)
        have q1 := cellX (W0 := x3) (show (x3).cell? ⟨b7, 1, none⟩ = some (.int .u64 x.num) from HB3.out.cell 1)
        have q2 := cellX (W0 := x3) (show (x3).cell? ⟨b7, 2, none⟩ = some (.int .i64 x.node) from HB3.out.cell 2)
        have q3 := cellX (W0 := x3) (show (x3).cell? ⟨b7, 3, none⟩ = some (.string x.key) from HB3.out.cell 3)
        have q4 := cellX (W0 := x3) (show (x3).cell? ⟨b7, 4, none⟩ = some (.bool x.was) from HB3.out.cell 4)
        have q5 := cellX (W0 := x3) (show (x3).cell? ⟨b7, 5, none⟩ = some (.string x.old) from HB3.out.cell 5)
        have q6 := cellX (W0 := x3) (show (x3).cell? ⟨b7, 6, none⟩ = some (.int .u64 x.prev) from HB3.out.cell 6)
        have q7 := cellX (W0 := x3) (show (x3).cell? ⟨b7, 7, none⟩ = some (.slice x.na x.nn x.nc) from HB3.out.cell 7)
        have q8 := cellX (W0 := x3) (show (x3).cell? ⟨b7, 8, none⟩ = some (.slice x.ra x.rn x.rc) from HB3.out.cell 8)
        have q9 := cellX (W0 := x3) (show (x3).cell? ⟨b7, 9, none⟩ = some (.slice x.ga x.gn x.gc) from HB3.out.cell 9)
        have q10 := cellX (W0 := x3) (show (x3).cell? ⟨b7, 10, none⟩ = some (.slice x.oa x.om x.oc) from HB3.out.cell 10)
        have q11 := cellX (W0 := x3) (show (x3).cell? ⟨b7, 11, none⟩ = some (.slice x.da x.dn x.dc) from HB3.out.cell 11)
        have p0 := cellX (W0 := x3) (show (x3).cell? ⟨r7 + 1, 0, none⟩ = some _ from HO3.out.cell 0)
        have p1 := cellX (W0 := x3) (show (x3).cell? ⟨r7 + 1, 1, none⟩ = some _ from HO3.out.cell 1)
        have p2 := cellX (W0 := x3) (show (x3).cell? ⟨r7 + 1, 2, none⟩ = some _ from HO3.out.cell 2)
        have p3 := cellX (W0 := x3) (show (x3).cell? ⟨r7 + 1, 3, none⟩ = some _ from HO3.out.cell 3)
        have p4 := cellX (W0 := x3) (show (x3).cell? ⟨r7 + 1, 4, none⟩ = some _ from HO3.out.cell 4)
        have p5 := cellX (W0 := x3) (show (x3).cell? ⟨r7 + 1, 5, none⟩ = some _ from HO3.out.cell 5)
        have p6 := cellX (W0 := x3) (show (x3).cell? ⟨r7 + 1, 6, none⟩ = some _ from HO3.out.cell 6)
        have pz := cellX (W0 := x3) (show (x3).cell? ⟨r7, 0, none⟩ = some (.string (⟨#[122]⟩ : ByteArray)) from by have := HN3.out.at.2.2.2.str (j := 0) rfl (by simp); simpa [Addr.add] using this)
        refine wpAnyH_seg (by kernel_rfl) (fun _ _ _ h => h) [16, 17] 0 _ _ _ (Ext.refl _) (by kernel_rfl) ?_
        simp only [opsAt, List.getElem?_toArray, List.getElem?_cons_zero, List.getElem?_cons_succ, List.cons_append, List.nil_append]
        repeat (go_big_quiet_step (fail))
        refine wpQuiet_nil ?_
        clear nA pz q0 q1 q2 q3 q4 q5 q6 q7 q8 q9 q10 q11 p0 p1 p2 p3 p4 p5 p6
        refine wpAnyH_done (by kernel_rfl) (NoPanic.normal ?_) 0
        have YE : Hid _ := HY3.out
        clear HB3 HO3 HN3 HA3 HY3
        go_wp2
        go_ret
        exact ⟨ret_bool (by simp), YE.out⟩
end Go.Proofs.Ytboobkkmieeobaa

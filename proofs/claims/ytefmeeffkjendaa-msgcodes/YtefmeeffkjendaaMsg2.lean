/- msg: Encode, walked. Own lemmas, no statement. -/
import Derived.Test.YtefmeeffkjendaaMsg1
import Derived.Test.YtefmeeffkjendaaPut
import Derived.BigQuiet
set_option linter.unusedSimpArgs false
set_option linter.unusedVariables false
namespace Go.Proofs.Ytefmeeffkjendaa
open Go.ChangeShapes Go.WideShapes Go.ChangeAt Go.RowKit

theorem putM_any (ao : Option Addr) (n c : Nat) (l : List UInt8) (N : Int) (w : World) (hs : Src w (.slice ao n c) l) (h0 : 0 ≤ N ∧ N < 18446744073709551616) (hl : l.length < 900000000) :
    Calls Try.prog 16 #[.slice ao n c, .int .u64 N] w (Gives w (join l (intB N))) := by
  have := put_any ao n c l N.toNat w hs (by omega) (by omega)
  rw [Int.toNat_of_nonneg h0.1] at this
  exact this
theorem textM_any (ao : Option Addr) (n c : Nat) (l : List UInt8) (s : ByteArray) (w : World) (hs : Src w (.slice ao n c) l) (h0 : s.size ≤ 1000) (hl : l.length < 900000000) :
    Calls Try.prog 18 #[.slice ao n c, .string s] w (Gives w (join l (textB s))) := by
  have := text_any ao n c l s w hs (by omega)
  have e : join (join l (enc s.size)) s.data.toList = join l (textB s) := by unfold join textB; rw [List.append_assoc]
  rw [e] at this
  exact this
theorem tidM_any (ao : Option Addr) (n c : Nat) (l : List UInt8) (x y : Int) (w : World) (hs : Src w (.slice ao n c) l) (h0 : 0 ≤ x ∧ x < 18446744073709551616) (hl : l.length < 900000000) :
    Calls Try.prog 14 #[.slice ao n c, .agg #[.int .u64 x, .int .i64 y]] w (Gives w (join l (tidB x y))) := by
  have := tid_any ao n c l x.toNat y w hs (by omega) (by omega)
  rw [Int.toNat_of_nonneg h0.1] at this
  have e : join (join l (enc x.toNat)) (enc (uns y)) = join l (tidB x y) := by unfold join tidB; rw [List.append_assoc]
  rw [e] at this
  exact this
theorem smallM_any (ao : Option Addr) (n c : Nat) (l : List UInt8) (N : Int) (w : World) (hs : Src w (.slice ao n c) l) (h0 : 0 ≤ N ∧ N < 9223372036854775808) (hl : l.length < 900000000) :
    Calls Try.prog 13 #[.slice ao n c, .int .i64 N] w (Gives w (join l (intB N))) := by
  have HP : Hid (Calls _ _ _ _ _) := putM_any ao n c l N w hs (by omega) hl
  have hw : IntKind.u64.wrap N = N := by rw [IntKind.wrap_u64]; omega
  clear hs hl h0
  go_enter Try.func13, Try.ntmps13
  go_wp2_with fail
  refine HP.out.mono ?_
  rintro e w1 ⟨g, cap, rfl, ho, y⟩
  have HO : Hid _ := ho
  have HY : Hid (Below w.heap.size w w1) := y
  clear ho y
  go_wp2
  go_ret
  exact ⟨g, cap, rfl, HO.out, HY.out⟩
theorem flagM_any (ao : Option Addr) (n c : Nat) (l : List UInt8) (b : Bool) (w : World) (hs : Src w (.slice ao n c) l) (hl : l.length < 900000000) :
    Calls Try.prog 20 #[.slice ao n c, .bool b] w (Gives w (join l (enc (flagN b)))) := by
  have H0 : Hid (Calls Try.prog 16 #[.slice ao n c, .int .u64 0] w (Gives w (join l (enc 0)))) := putM_any ao n c l 0 w hs (by omega) hl
  have H1 : Hid (Calls Try.prog 16 #[.slice ao n c, .int .u64 1] w (Gives w (join l (enc 1)))) := putM_any ao n c l 1 w hs (by omega) hl
  clear hs hl
  go_enter Try.func20, Try.ntmps20
  cases b with
  | true =>
    go_wp2_with fail
    refine H1.out.mono ?_
    rintro e w1 ⟨g, cap, rfl, ho, y⟩
    have HO : Hid _ := ho
    have HY : Hid (Below w.heap.size w w1) := y
    clear ho y
    go_wp2
    go_ret
    exact ⟨g, cap, rfl, HO.out, HY.out⟩
  | false =>
    go_wp2_with fail
    refine H0.out.mono ?_
    rintro e w1 ⟨g, cap, rfl, ho, y⟩
    have HO : Hid _ := ho
    have HY : Hid (Below w.heap.size w w1) := y
    clear ho y
    go_wp2
    go_ret
    exact ⟨g, cap, rfl, HO.out, HY.out⟩
/-- What Encode hands back. -/
def EncM (x : MsgQ) (w : World) (e : Ending) (w' : World) : Prop :=
  ((RightM x ∧ ∃ g cap, e = .returned (.tuple #[.slice (some ⟨g, 0, none⟩) (msgB x).length cap, .int .i64 0]) ∧ Own w' w.heap.size (.slice (some ⟨g, 0, none⟩) (msgB x).length cap) (msgB x)) ∨ (¬ RightM x ∧ e = .returned (.tuple #[.slice none 0 0, .int .i64 1]))) ∧ Below w.heap.size w w'
theorem intB_len (n : Int) : (intB n).length ≤ 100 := Nat.le_trans (enc_length _) (by omega)
theorem tidB_len (x y : Int) : (tidB x y).length ≤ 100 := by unfold tidB; rw [List.length_append]; have := enc_length x.toNat; have := enc_length (uns y); omega
theorem textB_len {s : ByteArray} (h : s.size ≤ 48) : (textB s).length ≤ 100 := by unfold textB; rw [List.length_append]; have := enc_length s.size; have : s.data.toList.length = s.size := rfl; omega
theorem flagB_len (b : Bool) : (enc (flagN b)).length ≤ 100 := Nat.le_trans (enc_length _) (by omega)
theorem catB {L l m : List UInt8} {k : Nat} (h : L = join l m) (h1 : l.length ≤ k) (h2 : m.length ≤ 100) : L.length ≤ k + 100 := by rw [h, join_length]; omega
set_option maxRecDepth 100000 in
set_option maxHeartbeats 8000000 in
theorem encode2_any (x : MsgQ) (w : World) (hr : RightM x) (hw : x.Wf) (hk : x.kind = 2) : Calls Try.prog 8 #[.agg #[.int .i64 x.kind, .int .i64 x.frm, .int .i64 x.dst, .int .u64 x.num, .int .i64 x.node, .int .u64 x.life, .int .i64 x.n, .int .i64 x.op, .string x.key, .string x.val, .bool x.has, .int .i64 x.code]] w (EncM x w) := by
  have HR : Hid (RightM x) := hr
  have hl : hasLifeB x.kind = true := decide_eq_true (by omega)
  have hn : hasNB x.kind = false := decide_eq_false (by omega)
  have hc : hasCodeB x.kind = false := decide_eq_false (by omega)
  have e3 : (x.kind == 3) = false := by simp [hk]
  have e4 : (x.kind == 4) = false := by simp [hk]
  have HM : Hid (msgB x = (join (join (join (join (join [] (intB x.kind)) (intB x.frm)) (intB x.dst)) (tidB x.num x.node)) (intB x.life))) := by
    show _ = _
    unfold msgB bodyB lifeB nB doB codeB didB join
    rw [hl, hn, hc]
    simp [hk, List.append_assoc]
  have HKB : Hid (0 ≤ x.kind ∧ x.kind < 9223372036854775808) := by have := hr.kind; show _ ∧ _; omega
  have HFB : Hid (0 ≤ x.frm ∧ x.frm < 9223372036854775808) := by have := hr.frm; show _ ∧ _; omega
  have HDB : Hid (0 ≤ x.dst ∧ x.dst < 9223372036854775808) := by have := hr.dst; show _ ∧ _; omega
  have HTB : Hid (0 ≤ x.num ∧ x.num < 18446744073709551616) := hw.2.2.2.1
  have HLB : Hid (0 ≤ x.life ∧ x.life < 18446744073709551616) := hw.2.2.2.2.2.1
  have HNB : Hid (0 ≤ x.n ∧ x.n < 9223372036854775808) := by have := hr.n; show _ ∧ _; omega
  have HCB : Hid (0 ≤ x.code ∧ x.code < 9223372036854775808) := by have := hr.code; show _ ∧ _; omega
  have HKV : Hid (x.key.size ≤ 9223372036854775807 ∧ x.val.size ≤ 9223372036854775807) := ⟨hw.2.2.2.2.2.2.2.2.1, hw.2.2.2.2.2.2.2.2.2.1⟩
  have HVS : Hid (x.val.size ≤ 48) := by show _ ≤ _; rcases hr.val with e | e <;> omega
  have HRM : Hid (rightM x = true) := (right_iff x).2 hr
  clear hr hw hk
  have HA : Hid (Blk (w.alloc (.cells #[.int .i64 x.kind, .int .i64 x.frm, .int .i64 x.dst, .int .u64 x.num, .int .i64 x.node, .int .u64 x.life, .int .i64 x.n, .int .i64 x.op, .string x.key, .string x.val, .bool x.has, .int .i64 x.code] 27)) w.heap.size #[.int .i64 x.kind, .int .i64 x.frm, .int .i64 x.dst, .int .u64 x.num, .int .i64 x.node, .int .u64 x.life, .int .i64 x.n, .int .i64 x.op, .string x.key, .string x.val, .bool x.has, .int .i64 x.code] 27) := Blk.new _ _ _
  have HY : Hid (Below w.heap.size w (w.alloc (.cells #[.int .i64 x.kind, .int .i64 x.frm, .int .i64 x.dst, .int .u64 x.num, .int .i64 x.node, .int .u64 x.life, .int .i64 x.n, .int .i64 x.op, .string x.key, .string x.val, .bool x.has, .int .i64 x.code] 27))) := (Below.refl _ _).alloc (Nat.le_refl _) _
  go_enter Try.func8, Try.ntmps8
  go_upto_region 1 with fail
  generalize w.alloc (.cells #[.int .i64 x.kind, .int .i64 x.frm, .int .i64 x.dst, .int .u64 x.num, .int .i64 x.node, .int .u64 x.life, .int .i64 x.n, .int .i64 x.op, .string x.key, .string x.val, .bool x.has, .int .i64 x.code] 27) = w0 at *
  have z0 : w0.cell? ⟨w.heap.size, 0, none⟩ = some (.int .i64 x.kind) := HA.out.cell 0
  have z1 : w0.cell? ⟨w.heap.size, 1, none⟩ = some (.int .i64 x.frm) := HA.out.cell 1
  have z2 : w0.cell? ⟨w.heap.size, 2, none⟩ = some (.int .i64 x.dst) := HA.out.cell 2
  have z3 : w0.cell? ⟨w.heap.size, 3, none⟩ = some (.int .u64 x.num) := HA.out.cell 3
  have z4 : w0.cell? ⟨w.heap.size, 4, none⟩ = some (.int .i64 x.node) := HA.out.cell 4
  have z5 : w0.cell? ⟨w.heap.size, 5, none⟩ = some (.int .u64 x.life) := HA.out.cell 5
  have z6 : w0.cell? ⟨w.heap.size, 6, none⟩ = some (.int .i64 x.n) := HA.out.cell 6
  have z7 : w0.cell? ⟨w.heap.size, 7, none⟩ = some (.int .i64 x.op) := HA.out.cell 7
  have z8 : w0.cell? ⟨w.heap.size, 8, none⟩ = some (.string x.key) := HA.out.cell 8
  have z9 : w0.cell? ⟨w.heap.size, 9, none⟩ = some (.string x.val) := HA.out.cell 9
  have z10 : w0.cell? ⟨w.heap.size, 10, none⟩ = some (.bool x.has) := HA.out.cell 10
  have z11 : w0.cell? ⟨w.heap.size, 11, none⟩ = some (.int .i64 x.code) := HA.out.cell 11
  go_wp2_with fail
  refine (right15_any x _ HKV.out.1 HKV.out.2).mono ?_
  rintro e u1 ⟨rfl, y⟩
  rw [HRM.out]
  have HA_u1 : Hid (Blk u1 w.heap.size #[.int .i64 x.kind, .int .i64 x.frm, .int .i64 x.dst, .int .u64 x.num, .int .i64 x.node, .int .u64 x.life, .int .i64 x.n, .int .i64 x.op, .string x.key, .string x.val, .bool x.has, .int .i64 x.code] 27) := Blk.of HA.out (y.block _ HA.out.lt)
  have HY_u1 : Hid (Below w.heap.size w u1) := HY.out.trans (y.mono HY.out.size)
  clear y HA HY
  clear z0 z1 z2 z3 z4 z5 z6 z7 z8 z9 z10 z11
  have z0 : u1.cell? ⟨w.heap.size, 0, none⟩ = some (.int .i64 x.kind) := HA_u1.out.cell 0
  have z1 : u1.cell? ⟨w.heap.size, 1, none⟩ = some (.int .i64 x.frm) := HA_u1.out.cell 1
  have z2 : u1.cell? ⟨w.heap.size, 2, none⟩ = some (.int .i64 x.dst) := HA_u1.out.cell 2
  have z3 : u1.cell? ⟨w.heap.size, 3, none⟩ = some (.int .u64 x.num) := HA_u1.out.cell 3
  have z4 : u1.cell? ⟨w.heap.size, 4, none⟩ = some (.int .i64 x.node) := HA_u1.out.cell 4
  have z5 : u1.cell? ⟨w.heap.size, 5, none⟩ = some (.int .u64 x.life) := HA_u1.out.cell 5
  have z6 : u1.cell? ⟨w.heap.size, 6, none⟩ = some (.int .i64 x.n) := HA_u1.out.cell 6
  have z7 : u1.cell? ⟨w.heap.size, 7, none⟩ = some (.int .i64 x.op) := HA_u1.out.cell 7
  have z8 : u1.cell? ⟨w.heap.size, 8, none⟩ = some (.string x.key) := HA_u1.out.cell 8
  have z9 : u1.cell? ⟨w.heap.size, 9, none⟩ = some (.string x.val) := HA_u1.out.cell 9
  have z10 : u1.cell? ⟨w.heap.size, 10, none⟩ = some (.bool x.has) := HA_u1.out.cell 10
  have z11 : u1.cell? ⟨w.heap.size, 11, none⟩ = some (.int .i64 x.code) := HA_u1.out.cell 11
  go_upto_region 3 with fail
  refine wp_region_ext (by kernel_rfl) ?_
  haveI nA := cls_ext u1.drew
  have q0 := cellX (W0 := u1.drew) (show u1.drew.cell? ⟨w.heap.size, 0, none⟩ = some (.int .i64 x.kind) from HA_u1.out.cell 0)
  have q1 := cellX (W0 := u1.drew) (show u1.drew.cell? ⟨w.heap.size, 1, none⟩ = some (.int .i64 x.frm) from HA_u1.out.cell 1)
  have q2 := cellX (W0 := u1.drew) (show u1.drew.cell? ⟨w.heap.size, 2, none⟩ = some (.int .i64 x.dst) from HA_u1.out.cell 2)
  have q3 := cellX (W0 := u1.drew) (show u1.drew.cell? ⟨w.heap.size, 3, none⟩ = some (.int .u64 x.num) from HA_u1.out.cell 3)
  have q4 := cellX (W0 := u1.drew) (show u1.drew.cell? ⟨w.heap.size, 4, none⟩ = some (.int .i64 x.node) from HA_u1.out.cell 4)
  have q5 := cellX (W0 := u1.drew) (show u1.drew.cell? ⟨w.heap.size, 5, none⟩ = some (.int .u64 x.life) from HA_u1.out.cell 5)
  have q6 := cellX (W0 := u1.drew) (show u1.drew.cell? ⟨w.heap.size, 6, none⟩ = some (.int .i64 x.n) from HA_u1.out.cell 6)
  have q7 := cellX (W0 := u1.drew) (show u1.drew.cell? ⟨w.heap.size, 7, none⟩ = some (.int .i64 x.op) from HA_u1.out.cell 7)
  have q8 := cellX (W0 := u1.drew) (show u1.drew.cell? ⟨w.heap.size, 8, none⟩ = some (.string x.key) from HA_u1.out.cell 8)
  have q9 := cellX (W0 := u1.drew) (show u1.drew.cell? ⟨w.heap.size, 9, none⟩ = some (.string x.val) from HA_u1.out.cell 9)
  have q10 := cellX (W0 := u1.drew) (show u1.drew.cell? ⟨w.heap.size, 10, none⟩ = some (.bool x.has) from HA_u1.out.cell 10)
  have q11 := cellX (W0 := u1.drew) (show u1.drew.cell? ⟨w.heap.size, 11, none⟩ = some (.int .i64 x.code) from HA_u1.out.cell 11)
  clear z0 z1 z2 z3 z4 z5 z6 z7 z8 z9 z10 z11
  refine wpAnyH_seg (by kernel_rfl) (fun _ _ _ h => h) [0, 1, 3, 4, 6, 7] 4 _ _ _ (Ext.refl _) (by kernel_rfl) ?_
  simp only [opsAt, List.getElem?_toArray, List.getElem?_cons_zero, List.getElem?_cons_succ, List.cons_append, List.nil_append]
  repeat (go_big_quiet_step (fail))
  refine wpQuiet_nil ?_
  clear nA q0 q1 q2 q3 q4 q5 q6 q7 q8 q9 q10 q11
  have y : Below u1.heap.size u1 u1.drew := (Below.refl _ _).drew
  generalize u1.drew = u2 at *
  have HA_u2 : Hid (Blk u2 w.heap.size #[.int .i64 x.kind, .int .i64 x.frm, .int .i64 x.dst, .int .u64 x.num, .int .i64 x.node, .int .u64 x.life, .int .i64 x.n, .int .i64 x.op, .string x.key, .string x.val, .bool x.has, .int .i64 x.code] 27) := Blk.of HA_u1.out (y.block _ HA_u1.out.lt)
  have HY_u2 : Hid (Below w.heap.size w u2) := HY_u1.out.trans (y.mono HY_u1.out.size)
  clear y HA_u1 HY_u1
  refine wpAnyH_callE (i := 2) (fuel := 3) 10 rfl (by kernel_rfl) rfl (Ext.refl _) (by kernel_rfl) (f := 13) (args := #[.slice none 0 0, .int .i64 x.kind]) (by kernel_rfl) (smallM_any none 0 0 [] x.kind _ (Src.nil _) HKB.out (by simp)) ?_
  rintro e u3 ⟨g1, c1, rfl, ho, y⟩
  refine ⟨_, rfl, y, ?_⟩
  obtain ⟨L1, hL⟩ : ∃ y, y = join [] (intB x.kind) := ⟨_, rfl⟩
  rw [← hL] at ho ⊢
  have HL1 : Hid (L1 = join [] (intB x.kind)) := hL
  clear hL
  have HB1 : Hid (L1.length ≤ 100) := catB HL1.out (Nat.zero_le _) (intB_len _)
  have HO_u3 : Hid (Own u3 w.heap.size (.slice (some ⟨g1, 0, none⟩) L1.length c1) L1) := ho.mono HY_u2.out.size
  clear ho
  have HA_u3 : Hid (Blk u3 w.heap.size #[.int .i64 x.kind, .int .i64 x.frm, .int .i64 x.dst, .int .u64 x.num, .int .i64 x.node, .int .u64 x.life, .int .i64 x.n, .int .i64 x.op, .string x.key, .string x.val, .bool x.has, .int .i64 x.code] 27) := Blk.of HA_u2.out (y.block _ HA_u2.out.lt)
  have HY_u3 : Hid (Below w.heap.size w u3) := HY_u2.out.trans (y.mono HY_u2.out.size)
  clear y HA_u2 HY_u2
  simp only [Act.put, List.setIfInBounds_toArray, List.set_cons_succ, List.set_cons_zero]
  refine wpAnyH_callE (i := 5) (fuel := 2) 13 rfl (by kernel_rfl) rfl (Ext.refl _) (by kernel_rfl) (f := 13) (args := #[.slice (some ⟨g1, 0, none⟩) L1.length c1, .int .i64 x.frm]) (by kernel_rfl) (smallM_any (some ⟨g1, 0, none⟩) L1.length c1 L1 x.frm _ HO_u3.out.src HFB.out (by have := HB1.out; omega)) ?_
  rintro e u4 ⟨g2, c2, rfl, ho, y⟩
  refine ⟨_, rfl, y, ?_⟩
  obtain ⟨L2, hL⟩ : ∃ y, y = join L1 (intB x.frm) := ⟨_, rfl⟩
  rw [← hL] at ho ⊢
  have HL2 : Hid (L2 = join L1 (intB x.frm)) := hL
  clear hL
  have HB2 : Hid (L2.length ≤ 200) := catB HL2.out HB1.out (intB_len _)
  have HO_u4 : Hid (Own u4 w.heap.size (.slice (some ⟨g2, 0, none⟩) L2.length c2) L2) := ho.mono HY_u3.out.size
  clear ho
  clear HO_u3
  have HA_u4 : Hid (Blk u4 w.heap.size #[.int .i64 x.kind, .int .i64 x.frm, .int .i64 x.dst, .int .u64 x.num, .int .i64 x.node, .int .u64 x.life, .int .i64 x.n, .int .i64 x.op, .string x.key, .string x.val, .bool x.has, .int .i64 x.code] 27) := Blk.of HA_u3.out (y.block _ HA_u3.out.lt)
  have HY_u4 : Hid (Below w.heap.size w u4) := HY_u3.out.trans (y.mono HY_u3.out.size)
  clear y HA_u3 HY_u3
  simp only [Act.put, List.setIfInBounds_toArray, List.set_cons_succ, List.set_cons_zero]
  refine wpAnyH_callE (i := 8) (fuel := 1) 16 rfl (by kernel_rfl) rfl (Ext.refl _) (by kernel_rfl) (f := 13) (args := #[.slice (some ⟨g2, 0, none⟩) L2.length c2, .int .i64 x.dst]) (by kernel_rfl) (smallM_any (some ⟨g2, 0, none⟩) L2.length c2 L2 x.dst _ HO_u4.out.src HDB.out (by have := HB2.out; omega)) ?_
  rintro e u5 ⟨g3, c3, rfl, ho, y⟩
  refine ⟨_, rfl, y, ?_⟩
  obtain ⟨L3, hL⟩ : ∃ y, y = join L2 (intB x.dst) := ⟨_, rfl⟩
  rw [← hL] at ho ⊢
  have HL3 : Hid (L3 = join L2 (intB x.dst)) := hL
  clear hL
  have HB3 : Hid (L3.length ≤ 300) := catB HL3.out HB2.out (intB_len _)
  have HO_u5 : Hid (Own u5 w.heap.size (.slice (some ⟨g3, 0, none⟩) L3.length c3) L3) := ho.mono HY_u4.out.size
  clear ho
  clear HO_u4
  have HA_u5 : Hid (Blk u5 w.heap.size #[.int .i64 x.kind, .int .i64 x.frm, .int .i64 x.dst, .int .u64 x.num, .int .i64 x.node, .int .u64 x.life, .int .i64 x.n, .int .i64 x.op, .string x.key, .string x.val, .bool x.has, .int .i64 x.code] 27) := Blk.of HA_u4.out (y.block _ HA_u4.out.lt)
  have HY_u5 : Hid (Below w.heap.size w u5) := HY_u4.out.trans (y.mono HY_u4.out.size)
  clear y HA_u4 HY_u4
  simp only [Act.put, List.setIfInBounds_toArray, List.set_cons_succ, List.set_cons_zero]
  haveI nA := cls_ext u5
  refine wpAnyH_seg (by kernel_rfl) (fun _ _ _ h => h) [9] 0 _ _ _ (Ext.refl _) (by kernel_rfl) ?_
  simp only [opsAt, List.getElem?_toArray, List.getElem?_cons_zero, List.getElem?_cons_succ, List.cons_append, List.nil_append]
  repeat (go_big_quiet_step (fail))
  refine wpQuiet_nil ?_
  clear nA
  refine wpAnyH_done (by kernel_rfl) (NoPanic.normal ?_) 0
  have z0 : u5.cell? ⟨w.heap.size, 0, none⟩ = some (.int .i64 x.kind) := HA_u5.out.cell 0
  have z1 : u5.cell? ⟨w.heap.size, 1, none⟩ = some (.int .i64 x.frm) := HA_u5.out.cell 1
  have z2 : u5.cell? ⟨w.heap.size, 2, none⟩ = some (.int .i64 x.dst) := HA_u5.out.cell 2
  have z3 : u5.cell? ⟨w.heap.size, 3, none⟩ = some (.int .u64 x.num) := HA_u5.out.cell 3
  have z4 : u5.cell? ⟨w.heap.size, 4, none⟩ = some (.int .i64 x.node) := HA_u5.out.cell 4
  have z5 : u5.cell? ⟨w.heap.size, 5, none⟩ = some (.int .u64 x.life) := HA_u5.out.cell 5
  have z6 : u5.cell? ⟨w.heap.size, 6, none⟩ = some (.int .i64 x.n) := HA_u5.out.cell 6
  have z7 : u5.cell? ⟨w.heap.size, 7, none⟩ = some (.int .i64 x.op) := HA_u5.out.cell 7
  have z8 : u5.cell? ⟨w.heap.size, 8, none⟩ = some (.string x.key) := HA_u5.out.cell 8
  have z9 : u5.cell? ⟨w.heap.size, 9, none⟩ = some (.string x.val) := HA_u5.out.cell 9
  have z10 : u5.cell? ⟨w.heap.size, 10, none⟩ = some (.bool x.has) := HA_u5.out.cell 10
  have z11 : u5.cell? ⟨w.heap.size, 11, none⟩ = some (.int .i64 x.code) := HA_u5.out.cell 11
  go_wp2_with fail
  refine (tidM_any (some ⟨g3, 0, none⟩) L3.length c3 L3 x.num x.node _ HO_u5.out.src HTB.out (by have := HB3.out; omega)).mono ?_
  rintro e u6 ⟨g4, c4, rfl, ho, y⟩
  obtain ⟨L4, hL⟩ : ∃ y, y = join L3 (tidB x.num x.node) := ⟨_, rfl⟩
  rw [← hL] at ho ⊢
  have HL4 : Hid (L4 = join L3 (tidB x.num x.node)) := hL
  clear hL
  have HB4 : Hid (L4.length ≤ 400) := catB HL4.out HB3.out (tidB_len _ _)
  have HO_u6 : Hid (Own u6 w.heap.size (.slice (some ⟨g4, 0, none⟩) L4.length c4) L4) := ho.mono HY_u5.out.size
  clear ho
  clear HO_u5
  have HA_u6 : Hid (Blk u6 w.heap.size #[.int .i64 x.kind, .int .i64 x.frm, .int .i64 x.dst, .int .u64 x.num, .int .i64 x.node, .int .u64 x.life, .int .i64 x.n, .int .i64 x.op, .string x.key, .string x.val, .bool x.has, .int .i64 x.code] 27) := Blk.of HA_u5.out (y.block _ HA_u5.out.lt)
  have HY_u6 : Hid (Below w.heap.size w u6) := HY_u5.out.trans (y.mono HY_u5.out.size)
  clear y HA_u5 HY_u5
  clear z0 z1 z2 z3 z4 z5 z6 z7 z8 z9 z10 z11
  have z0 : u6.cell? ⟨w.heap.size, 0, none⟩ = some (.int .i64 x.kind) := HA_u6.out.cell 0
  have z1 : u6.cell? ⟨w.heap.size, 1, none⟩ = some (.int .i64 x.frm) := HA_u6.out.cell 1
  have z2 : u6.cell? ⟨w.heap.size, 2, none⟩ = some (.int .i64 x.dst) := HA_u6.out.cell 2
  have z3 : u6.cell? ⟨w.heap.size, 3, none⟩ = some (.int .u64 x.num) := HA_u6.out.cell 3
  have z4 : u6.cell? ⟨w.heap.size, 4, none⟩ = some (.int .i64 x.node) := HA_u6.out.cell 4
  have z5 : u6.cell? ⟨w.heap.size, 5, none⟩ = some (.int .u64 x.life) := HA_u6.out.cell 5
  have z6 : u6.cell? ⟨w.heap.size, 6, none⟩ = some (.int .i64 x.n) := HA_u6.out.cell 6
  have z7 : u6.cell? ⟨w.heap.size, 7, none⟩ = some (.int .i64 x.op) := HA_u6.out.cell 7
  have z8 : u6.cell? ⟨w.heap.size, 8, none⟩ = some (.string x.key) := HA_u6.out.cell 8
  have z9 : u6.cell? ⟨w.heap.size, 9, none⟩ = some (.string x.val) := HA_u6.out.cell 9
  have z10 : u6.cell? ⟨w.heap.size, 10, none⟩ = some (.bool x.has) := HA_u6.out.cell 10
  have z11 : u6.cell? ⟨w.heap.size, 11, none⟩ = some (.int .i64 x.code) := HA_u6.out.cell 11
  go_wp2_with fail
  refine (hasLife_any x _).mono ?_
  rintro e u7 ⟨rfl, y⟩
  rw [hl]
  have HA_u7 : Hid (Blk u7 w.heap.size #[.int .i64 x.kind, .int .i64 x.frm, .int .i64 x.dst, .int .u64 x.num, .int .i64 x.node, .int .u64 x.life, .int .i64 x.n, .int .i64 x.op, .string x.key, .string x.val, .bool x.has, .int .i64 x.code] 27) := Blk.of HA_u6.out (y.block _ HA_u6.out.lt)
  have HY_u7 : Hid (Below w.heap.size w u7) := HY_u6.out.trans (y.mono HY_u6.out.size)
  have HO_u7 : Hid (Own u7 w.heap.size (.slice (some ⟨g4, 0, none⟩) L4.length c4) L4) := HO_u6.out.below y
  clear y HA_u6 HY_u6 HO_u6
  clear z0 z1 z2 z3 z4 z5 z6 z7 z8 z9 z10 z11
  have z0 : u7.cell? ⟨w.heap.size, 0, none⟩ = some (.int .i64 x.kind) := HA_u7.out.cell 0
  have z1 : u7.cell? ⟨w.heap.size, 1, none⟩ = some (.int .i64 x.frm) := HA_u7.out.cell 1
  have z2 : u7.cell? ⟨w.heap.size, 2, none⟩ = some (.int .i64 x.dst) := HA_u7.out.cell 2
  have z3 : u7.cell? ⟨w.heap.size, 3, none⟩ = some (.int .u64 x.num) := HA_u7.out.cell 3
  have z4 : u7.cell? ⟨w.heap.size, 4, none⟩ = some (.int .i64 x.node) := HA_u7.out.cell 4
  have z5 : u7.cell? ⟨w.heap.size, 5, none⟩ = some (.int .u64 x.life) := HA_u7.out.cell 5
  have z6 : u7.cell? ⟨w.heap.size, 6, none⟩ = some (.int .i64 x.n) := HA_u7.out.cell 6
  have z7 : u7.cell? ⟨w.heap.size, 7, none⟩ = some (.int .i64 x.op) := HA_u7.out.cell 7
  have z8 : u7.cell? ⟨w.heap.size, 8, none⟩ = some (.string x.key) := HA_u7.out.cell 8
  have z9 : u7.cell? ⟨w.heap.size, 9, none⟩ = some (.string x.val) := HA_u7.out.cell 9
  have z10 : u7.cell? ⟨w.heap.size, 10, none⟩ = some (.bool x.has) := HA_u7.out.cell 10
  have z11 : u7.cell? ⟨w.heap.size, 11, none⟩ = some (.int .i64 x.code) := HA_u7.out.cell 11
  go_wp2_with fail
  refine (putM_any (some ⟨g4, 0, none⟩) L4.length c4 L4 x.life _ HO_u7.out.src HLB.out (by have := HB4.out; omega)).mono ?_
  rintro e u8 ⟨g5, c5, rfl, ho, y⟩
  obtain ⟨L5, hL⟩ : ∃ y, y = join L4 (intB x.life) := ⟨_, rfl⟩
  rw [← hL] at ho ⊢
  have HL5 : Hid (L5 = join L4 (intB x.life)) := hL
  clear hL
  have HB5 : Hid (L5.length ≤ 500) := catB HL5.out HB4.out (intB_len _)
  have HO_u8 : Hid (Own u8 w.heap.size (.slice (some ⟨g5, 0, none⟩) L5.length c5) L5) := ho.mono HY_u7.out.size
  clear ho
  clear HO_u7
  have HA_u8 : Hid (Blk u8 w.heap.size #[.int .i64 x.kind, .int .i64 x.frm, .int .i64 x.dst, .int .u64 x.num, .int .i64 x.node, .int .u64 x.life, .int .i64 x.n, .int .i64 x.op, .string x.key, .string x.val, .bool x.has, .int .i64 x.code] 27) := Blk.of HA_u7.out (y.block _ HA_u7.out.lt)
  have HY_u8 : Hid (Below w.heap.size w u8) := HY_u7.out.trans (y.mono HY_u7.out.size)
  clear y HA_u7 HY_u7
  clear z0 z1 z2 z3 z4 z5 z6 z7 z8 z9 z10 z11
  have z0 : u8.cell? ⟨w.heap.size, 0, none⟩ = some (.int .i64 x.kind) := HA_u8.out.cell 0
  have z1 : u8.cell? ⟨w.heap.size, 1, none⟩ = some (.int .i64 x.frm) := HA_u8.out.cell 1
  have z2 : u8.cell? ⟨w.heap.size, 2, none⟩ = some (.int .i64 x.dst) := HA_u8.out.cell 2
  have z3 : u8.cell? ⟨w.heap.size, 3, none⟩ = some (.int .u64 x.num) := HA_u8.out.cell 3
  have z4 : u8.cell? ⟨w.heap.size, 4, none⟩ = some (.int .i64 x.node) := HA_u8.out.cell 4
  have z5 : u8.cell? ⟨w.heap.size, 5, none⟩ = some (.int .u64 x.life) := HA_u8.out.cell 5
  have z6 : u8.cell? ⟨w.heap.size, 6, none⟩ = some (.int .i64 x.n) := HA_u8.out.cell 6
  have z7 : u8.cell? ⟨w.heap.size, 7, none⟩ = some (.int .i64 x.op) := HA_u8.out.cell 7
  have z8 : u8.cell? ⟨w.heap.size, 8, none⟩ = some (.string x.key) := HA_u8.out.cell 8
  have z9 : u8.cell? ⟨w.heap.size, 9, none⟩ = some (.string x.val) := HA_u8.out.cell 9
  have z10 : u8.cell? ⟨w.heap.size, 10, none⟩ = some (.bool x.has) := HA_u8.out.cell 10
  have z11 : u8.cell? ⟨w.heap.size, 11, none⟩ = some (.int .i64 x.code) := HA_u8.out.cell 11
  go_wp2_with fail
  refine (hasN_any x _).mono ?_
  rintro e u9 ⟨rfl, y⟩
  rw [hn]
  have HA_u9 : Hid (Blk u9 w.heap.size #[.int .i64 x.kind, .int .i64 x.frm, .int .i64 x.dst, .int .u64 x.num, .int .i64 x.node, .int .u64 x.life, .int .i64 x.n, .int .i64 x.op, .string x.key, .string x.val, .bool x.has, .int .i64 x.code] 27) := Blk.of HA_u8.out (y.block _ HA_u8.out.lt)
  have HY_u9 : Hid (Below w.heap.size w u9) := HY_u8.out.trans (y.mono HY_u8.out.size)
  have HO_u9 : Hid (Own u9 w.heap.size (.slice (some ⟨g5, 0, none⟩) L5.length c5) L5) := HO_u8.out.below y
  clear y HA_u8 HY_u8 HO_u8
  clear z0 z1 z2 z3 z4 z5 z6 z7 z8 z9 z10 z11
  have z0 : u9.cell? ⟨w.heap.size, 0, none⟩ = some (.int .i64 x.kind) := HA_u9.out.cell 0
  have z1 : u9.cell? ⟨w.heap.size, 1, none⟩ = some (.int .i64 x.frm) := HA_u9.out.cell 1
  have z2 : u9.cell? ⟨w.heap.size, 2, none⟩ = some (.int .i64 x.dst) := HA_u9.out.cell 2
  have z3 : u9.cell? ⟨w.heap.size, 3, none⟩ = some (.int .u64 x.num) := HA_u9.out.cell 3
  have z4 : u9.cell? ⟨w.heap.size, 4, none⟩ = some (.int .i64 x.node) := HA_u9.out.cell 4
  have z5 : u9.cell? ⟨w.heap.size, 5, none⟩ = some (.int .u64 x.life) := HA_u9.out.cell 5
  have z6 : u9.cell? ⟨w.heap.size, 6, none⟩ = some (.int .i64 x.n) := HA_u9.out.cell 6
  have z7 : u9.cell? ⟨w.heap.size, 7, none⟩ = some (.int .i64 x.op) := HA_u9.out.cell 7
  have z8 : u9.cell? ⟨w.heap.size, 8, none⟩ = some (.string x.key) := HA_u9.out.cell 8
  have z9 : u9.cell? ⟨w.heap.size, 9, none⟩ = some (.string x.val) := HA_u9.out.cell 9
  have z10 : u9.cell? ⟨w.heap.size, 10, none⟩ = some (.bool x.has) := HA_u9.out.cell 10
  have z11 : u9.cell? ⟨w.heap.size, 11, none⟩ = some (.int .i64 x.code) := HA_u9.out.cell 11
  go_wp2_with fail
  refine (hasCode_any x _).mono ?_
  rintro e u10 ⟨rfl, y⟩
  rw [hc]
  have HA_u10 : Hid (Blk u10 w.heap.size #[.int .i64 x.kind, .int .i64 x.frm, .int .i64 x.dst, .int .u64 x.num, .int .i64 x.node, .int .u64 x.life, .int .i64 x.n, .int .i64 x.op, .string x.key, .string x.val, .bool x.has, .int .i64 x.code] 27) := Blk.of HA_u9.out (y.block _ HA_u9.out.lt)
  have HY_u10 : Hid (Below w.heap.size w u10) := HY_u9.out.trans (y.mono HY_u9.out.size)
  have HO_u10 : Hid (Own u10 w.heap.size (.slice (some ⟨g5, 0, none⟩) L5.length c5) L5) := HO_u9.out.below y
  clear y HA_u9 HY_u9 HO_u9
  clear z0 z1 z2 z3 z4 z5 z6 z7 z8 z9 z10 z11
  have z0 : u10.cell? ⟨w.heap.size, 0, none⟩ = some (.int .i64 x.kind) := HA_u10.out.cell 0
  have z1 : u10.cell? ⟨w.heap.size, 1, none⟩ = some (.int .i64 x.frm) := HA_u10.out.cell 1
  have z2 : u10.cell? ⟨w.heap.size, 2, none⟩ = some (.int .i64 x.dst) := HA_u10.out.cell 2
  have z3 : u10.cell? ⟨w.heap.size, 3, none⟩ = some (.int .u64 x.num) := HA_u10.out.cell 3
  have z4 : u10.cell? ⟨w.heap.size, 4, none⟩ = some (.int .i64 x.node) := HA_u10.out.cell 4
  have z5 : u10.cell? ⟨w.heap.size, 5, none⟩ = some (.int .u64 x.life) := HA_u10.out.cell 5
  have z6 : u10.cell? ⟨w.heap.size, 6, none⟩ = some (.int .i64 x.n) := HA_u10.out.cell 6
  have z7 : u10.cell? ⟨w.heap.size, 7, none⟩ = some (.int .i64 x.op) := HA_u10.out.cell 7
  have z8 : u10.cell? ⟨w.heap.size, 8, none⟩ = some (.string x.key) := HA_u10.out.cell 8
  have z9 : u10.cell? ⟨w.heap.size, 9, none⟩ = some (.string x.val) := HA_u10.out.cell 9
  have z10 : u10.cell? ⟨w.heap.size, 10, none⟩ = some (.bool x.has) := HA_u10.out.cell 10
  have z11 : u10.cell? ⟨w.heap.size, 11, none⟩ = some (.int .i64 x.code) := HA_u10.out.cell 11
  have HEQ : Hid (L5 = msgB x) := by show _ = _; rw [HM.out, HL5.out, HL4.out, HL3.out, HL2.out, HL1.out]
  go_wp2
  go_ret2
  refine ⟨.inl ⟨HR.out, g5, c5, ?_, ?_⟩, HY_u10.out⟩
  · rw [HEQ.out]; rfl
  · have := HO_u10.out
    rw [HEQ.out] at this
    exact this
set_option maxRecDepth 100000 in
set_option maxHeartbeats 8000000 in
theorem encode3_any (x : MsgQ) (w : World) (hr : RightM x) (hw : x.Wf) (hk : x.kind = 3) : Calls Try.prog 8 #[.agg #[.int .i64 x.kind, .int .i64 x.frm, .int .i64 x.dst, .int .u64 x.num, .int .i64 x.node, .int .u64 x.life, .int .i64 x.n, .int .i64 x.op, .string x.key, .string x.val, .bool x.has, .int .i64 x.code]] w (EncM x w) := by
  have HR : Hid (RightM x) := hr
  have hl : hasLifeB x.kind = true := decide_eq_true (by omega)
  have hn : hasNB x.kind = true := decide_eq_true (by omega)
  have hc : hasCodeB x.kind = false := decide_eq_false (by omega)
  have e3 : (x.kind == 3) = true := by simp [hk]
  have e4 : (x.kind == 4) = false := by simp [hk]
  have HM : Hid (msgB x = (join (join (join (join (join (join (join (join (join [] (intB x.kind)) (intB x.frm)) (intB x.dst)) (tidB x.num x.node)) (intB x.life)) (intB x.n)) (intB x.op)) (textB x.key)) (textB x.val))) := by
    show _ = _
    unfold msgB bodyB lifeB nB doB codeB didB join
    rw [hl, hn, hc]
    simp [hk, List.append_assoc]
  have HKB : Hid (0 ≤ x.kind ∧ x.kind < 9223372036854775808) := by have := hr.kind; show _ ∧ _; omega
  have HFB : Hid (0 ≤ x.frm ∧ x.frm < 9223372036854775808) := by have := hr.frm; show _ ∧ _; omega
  have HDB : Hid (0 ≤ x.dst ∧ x.dst < 9223372036854775808) := by have := hr.dst; show _ ∧ _; omega
  have HTB : Hid (0 ≤ x.num ∧ x.num < 18446744073709551616) := hw.2.2.2.1
  have HLB : Hid (0 ≤ x.life ∧ x.life < 18446744073709551616) := hw.2.2.2.2.2.1
  have HNB : Hid (0 ≤ x.n ∧ x.n < 9223372036854775808) := by have := hr.n; show _ ∧ _; omega
  have HCB : Hid (0 ≤ x.code ∧ x.code < 9223372036854775808) := by have := hr.code; show _ ∧ _; omega
  have HKV : Hid (x.key.size ≤ 9223372036854775807 ∧ x.val.size ≤ 9223372036854775807) := ⟨hw.2.2.2.2.2.2.2.2.1, hw.2.2.2.2.2.2.2.2.2.1⟩
  have HVS : Hid (x.val.size ≤ 48) := by show _ ≤ _; rcases hr.val with e | e <;> omega
  have HRM : Hid (rightM x = true) := (right_iff x).2 hr
  have HKS : Hid (x.key.size ≤ 48) := by have := (hr.deed3 hk).2.2.2; show _ ≤ _; omega
  have HOB : Hid (0 ≤ x.op ∧ x.op < 9223372036854775808) := by have := hr.deed3 hk; show _ ∧ _; omega
  clear hr hw hk
  have HA : Hid (Blk (w.alloc (.cells #[.int .i64 x.kind, .int .i64 x.frm, .int .i64 x.dst, .int .u64 x.num, .int .i64 x.node, .int .u64 x.life, .int .i64 x.n, .int .i64 x.op, .string x.key, .string x.val, .bool x.has, .int .i64 x.code] 27)) w.heap.size #[.int .i64 x.kind, .int .i64 x.frm, .int .i64 x.dst, .int .u64 x.num, .int .i64 x.node, .int .u64 x.life, .int .i64 x.n, .int .i64 x.op, .string x.key, .string x.val, .bool x.has, .int .i64 x.code] 27) := Blk.new _ _ _
  have HY : Hid (Below w.heap.size w (w.alloc (.cells #[.int .i64 x.kind, .int .i64 x.frm, .int .i64 x.dst, .int .u64 x.num, .int .i64 x.node, .int .u64 x.life, .int .i64 x.n, .int .i64 x.op, .string x.key, .string x.val, .bool x.has, .int .i64 x.code] 27))) := (Below.refl _ _).alloc (Nat.le_refl _) _
  go_enter Try.func8, Try.ntmps8
  go_upto_region 1 with fail
  generalize w.alloc (.cells #[.int .i64 x.kind, .int .i64 x.frm, .int .i64 x.dst, .int .u64 x.num, .int .i64 x.node, .int .u64 x.life, .int .i64 x.n, .int .i64 x.op, .string x.key, .string x.val, .bool x.has, .int .i64 x.code] 27) = w0 at *
  have z0 : w0.cell? ⟨w.heap.size, 0, none⟩ = some (.int .i64 x.kind) := HA.out.cell 0
  have z1 : w0.cell? ⟨w.heap.size, 1, none⟩ = some (.int .i64 x.frm) := HA.out.cell 1
  have z2 : w0.cell? ⟨w.heap.size, 2, none⟩ = some (.int .i64 x.dst) := HA.out.cell 2
  have z3 : w0.cell? ⟨w.heap.size, 3, none⟩ = some (.int .u64 x.num) := HA.out.cell 3
  have z4 : w0.cell? ⟨w.heap.size, 4, none⟩ = some (.int .i64 x.node) := HA.out.cell 4
  have z5 : w0.cell? ⟨w.heap.size, 5, none⟩ = some (.int .u64 x.life) := HA.out.cell 5
  have z6 : w0.cell? ⟨w.heap.size, 6, none⟩ = some (.int .i64 x.n) := HA.out.cell 6
  have z7 : w0.cell? ⟨w.heap.size, 7, none⟩ = some (.int .i64 x.op) := HA.out.cell 7
  have z8 : w0.cell? ⟨w.heap.size, 8, none⟩ = some (.string x.key) := HA.out.cell 8
  have z9 : w0.cell? ⟨w.heap.size, 9, none⟩ = some (.string x.val) := HA.out.cell 9
  have z10 : w0.cell? ⟨w.heap.size, 10, none⟩ = some (.bool x.has) := HA.out.cell 10
  have z11 : w0.cell? ⟨w.heap.size, 11, none⟩ = some (.int .i64 x.code) := HA.out.cell 11
  go_wp2_with fail
  refine (right15_any x _ HKV.out.1 HKV.out.2).mono ?_
  rintro e u1 ⟨rfl, y⟩
  rw [HRM.out]
  have HA_u1 : Hid (Blk u1 w.heap.size #[.int .i64 x.kind, .int .i64 x.frm, .int .i64 x.dst, .int .u64 x.num, .int .i64 x.node, .int .u64 x.life, .int .i64 x.n, .int .i64 x.op, .string x.key, .string x.val, .bool x.has, .int .i64 x.code] 27) := Blk.of HA.out (y.block _ HA.out.lt)
  have HY_u1 : Hid (Below w.heap.size w u1) := HY.out.trans (y.mono HY.out.size)
  clear y HA HY
  clear z0 z1 z2 z3 z4 z5 z6 z7 z8 z9 z10 z11
  have z0 : u1.cell? ⟨w.heap.size, 0, none⟩ = some (.int .i64 x.kind) := HA_u1.out.cell 0
  have z1 : u1.cell? ⟨w.heap.size, 1, none⟩ = some (.int .i64 x.frm) := HA_u1.out.cell 1
  have z2 : u1.cell? ⟨w.heap.size, 2, none⟩ = some (.int .i64 x.dst) := HA_u1.out.cell 2
  have z3 : u1.cell? ⟨w.heap.size, 3, none⟩ = some (.int .u64 x.num) := HA_u1.out.cell 3
  have z4 : u1.cell? ⟨w.heap.size, 4, none⟩ = some (.int .i64 x.node) := HA_u1.out.cell 4
  have z5 : u1.cell? ⟨w.heap.size, 5, none⟩ = some (.int .u64 x.life) := HA_u1.out.cell 5
  have z6 : u1.cell? ⟨w.heap.size, 6, none⟩ = some (.int .i64 x.n) := HA_u1.out.cell 6
  have z7 : u1.cell? ⟨w.heap.size, 7, none⟩ = some (.int .i64 x.op) := HA_u1.out.cell 7
  have z8 : u1.cell? ⟨w.heap.size, 8, none⟩ = some (.string x.key) := HA_u1.out.cell 8
  have z9 : u1.cell? ⟨w.heap.size, 9, none⟩ = some (.string x.val) := HA_u1.out.cell 9
  have z10 : u1.cell? ⟨w.heap.size, 10, none⟩ = some (.bool x.has) := HA_u1.out.cell 10
  have z11 : u1.cell? ⟨w.heap.size, 11, none⟩ = some (.int .i64 x.code) := HA_u1.out.cell 11
  go_upto_region 3 with fail
  refine wp_region_ext (by kernel_rfl) ?_
  haveI nA := cls_ext u1.drew
  have q0 := cellX (W0 := u1.drew) (show u1.drew.cell? ⟨w.heap.size, 0, none⟩ = some (.int .i64 x.kind) from HA_u1.out.cell 0)
  have q1 := cellX (W0 := u1.drew) (show u1.drew.cell? ⟨w.heap.size, 1, none⟩ = some (.int .i64 x.frm) from HA_u1.out.cell 1)
  have q2 := cellX (W0 := u1.drew) (show u1.drew.cell? ⟨w.heap.size, 2, none⟩ = some (.int .i64 x.dst) from HA_u1.out.cell 2)
  have q3 := cellX (W0 := u1.drew) (show u1.drew.cell? ⟨w.heap.size, 3, none⟩ = some (.int .u64 x.num) from HA_u1.out.cell 3)
  have q4 := cellX (W0 := u1.drew) (show u1.drew.cell? ⟨w.heap.size, 4, none⟩ = some (.int .i64 x.node) from HA_u1.out.cell 4)
  have q5 := cellX (W0 := u1.drew) (show u1.drew.cell? ⟨w.heap.size, 5, none⟩ = some (.int .u64 x.life) from HA_u1.out.cell 5)
  have q6 := cellX (W0 := u1.drew) (show u1.drew.cell? ⟨w.heap.size, 6, none⟩ = some (.int .i64 x.n) from HA_u1.out.cell 6)
  have q7 := cellX (W0 := u1.drew) (show u1.drew.cell? ⟨w.heap.size, 7, none⟩ = some (.int .i64 x.op) from HA_u1.out.cell 7)
  have q8 := cellX (W0 := u1.drew) (show u1.drew.cell? ⟨w.heap.size, 8, none⟩ = some (.string x.key) from HA_u1.out.cell 8)
  have q9 := cellX (W0 := u1.drew) (show u1.drew.cell? ⟨w.heap.size, 9, none⟩ = some (.string x.val) from HA_u1.out.cell 9)
  have q10 := cellX (W0 := u1.drew) (show u1.drew.cell? ⟨w.heap.size, 10, none⟩ = some (.bool x.has) from HA_u1.out.cell 10)
  have q11 := cellX (W0 := u1.drew) (show u1.drew.cell? ⟨w.heap.size, 11, none⟩ = some (.int .i64 x.code) from HA_u1.out.cell 11)
  clear z0 z1 z2 z3 z4 z5 z6 z7 z8 z9 z10 z11
  refine wpAnyH_seg (by kernel_rfl) (fun _ _ _ h => h) [0, 1, 3, 4, 6, 7] 4 _ _ _ (Ext.refl _) (by kernel_rfl) ?_
  simp only [opsAt, List.getElem?_toArray, List.getElem?_cons_zero, List.getElem?_cons_succ, List.cons_append, List.nil_append]
  repeat (go_big_quiet_step (fail))
  refine wpQuiet_nil ?_
  clear nA q0 q1 q2 q3 q4 q5 q6 q7 q8 q9 q10 q11
  have y : Below u1.heap.size u1 u1.drew := (Below.refl _ _).drew
  generalize u1.drew = u2 at *
  have HA_u2 : Hid (Blk u2 w.heap.size #[.int .i64 x.kind, .int .i64 x.frm, .int .i64 x.dst, .int .u64 x.num, .int .i64 x.node, .int .u64 x.life, .int .i64 x.n, .int .i64 x.op, .string x.key, .string x.val, .bool x.has, .int .i64 x.code] 27) := Blk.of HA_u1.out (y.block _ HA_u1.out.lt)
  have HY_u2 : Hid (Below w.heap.size w u2) := HY_u1.out.trans (y.mono HY_u1.out.size)
  clear y HA_u1 HY_u1
  refine wpAnyH_callE (i := 2) (fuel := 3) 10 rfl (by kernel_rfl) rfl (Ext.refl _) (by kernel_rfl) (f := 13) (args := #[.slice none 0 0, .int .i64 x.kind]) (by kernel_rfl) (smallM_any none 0 0 [] x.kind _ (Src.nil _) HKB.out (by simp)) ?_
  rintro e u3 ⟨g1, c1, rfl, ho, y⟩
  refine ⟨_, rfl, y, ?_⟩
  obtain ⟨L1, hL⟩ : ∃ y, y = join [] (intB x.kind) := ⟨_, rfl⟩
  rw [← hL] at ho ⊢
  have HL1 : Hid (L1 = join [] (intB x.kind)) := hL
  clear hL
  have HB1 : Hid (L1.length ≤ 100) := catB HL1.out (Nat.zero_le _) (intB_len _)
  have HO_u3 : Hid (Own u3 w.heap.size (.slice (some ⟨g1, 0, none⟩) L1.length c1) L1) := ho.mono HY_u2.out.size
  clear ho
  have HA_u3 : Hid (Blk u3 w.heap.size #[.int .i64 x.kind, .int .i64 x.frm, .int .i64 x.dst, .int .u64 x.num, .int .i64 x.node, .int .u64 x.life, .int .i64 x.n, .int .i64 x.op, .string x.key, .string x.val, .bool x.has, .int .i64 x.code] 27) := Blk.of HA_u2.out (y.block _ HA_u2.out.lt)
  have HY_u3 : Hid (Below w.heap.size w u3) := HY_u2.out.trans (y.mono HY_u2.out.size)
  clear y HA_u2 HY_u2
  simp only [Act.put, List.setIfInBounds_toArray, List.set_cons_succ, List.set_cons_zero]
  refine wpAnyH_callE (i := 5) (fuel := 2) 13 rfl (by kernel_rfl) rfl (Ext.refl _) (by kernel_rfl) (f := 13) (args := #[.slice (some ⟨g1, 0, none⟩) L1.length c1, .int .i64 x.frm]) (by kernel_rfl) (smallM_any (some ⟨g1, 0, none⟩) L1.length c1 L1 x.frm _ HO_u3.out.src HFB.out (by have := HB1.out; omega)) ?_
  rintro e u4 ⟨g2, c2, rfl, ho, y⟩
  refine ⟨_, rfl, y, ?_⟩
  obtain ⟨L2, hL⟩ : ∃ y, y = join L1 (intB x.frm) := ⟨_, rfl⟩
  rw [← hL] at ho ⊢
  have HL2 : Hid (L2 = join L1 (intB x.frm)) := hL
  clear hL
  have HB2 : Hid (L2.length ≤ 200) := catB HL2.out HB1.out (intB_len _)
  have HO_u4 : Hid (Own u4 w.heap.size (.slice (some ⟨g2, 0, none⟩) L2.length c2) L2) := ho.mono HY_u3.out.size
  clear ho
  clear HO_u3
  have HA_u4 : Hid (Blk u4 w.heap.size #[.int .i64 x.kind, .int .i64 x.frm, .int .i64 x.dst, .int .u64 x.num, .int .i64 x.node, .int .u64 x.life, .int .i64 x.n, .int .i64 x.op, .string x.key, .string x.val, .bool x.has, .int .i64 x.code] 27) := Blk.of HA_u3.out (y.block _ HA_u3.out.lt)
  have HY_u4 : Hid (Below w.heap.size w u4) := HY_u3.out.trans (y.mono HY_u3.out.size)
  clear y HA_u3 HY_u3
  simp only [Act.put, List.setIfInBounds_toArray, List.set_cons_succ, List.set_cons_zero]
  refine wpAnyH_callE (i := 8) (fuel := 1) 16 rfl (by kernel_rfl) rfl (Ext.refl _) (by kernel_rfl) (f := 13) (args := #[.slice (some ⟨g2, 0, none⟩) L2.length c2, .int .i64 x.dst]) (by kernel_rfl) (smallM_any (some ⟨g2, 0, none⟩) L2.length c2 L2 x.dst _ HO_u4.out.src HDB.out (by have := HB2.out; omega)) ?_
  rintro e u5 ⟨g3, c3, rfl, ho, y⟩
  refine ⟨_, rfl, y, ?_⟩
  obtain ⟨L3, hL⟩ : ∃ y, y = join L2 (intB x.dst) := ⟨_, rfl⟩
  rw [← hL] at ho ⊢
  have HL3 : Hid (L3 = join L2 (intB x.dst)) := hL
  clear hL
  have HB3 : Hid (L3.length ≤ 300) := catB HL3.out HB2.out (intB_len _)
  have HO_u5 : Hid (Own u5 w.heap.size (.slice (some ⟨g3, 0, none⟩) L3.length c3) L3) := ho.mono HY_u4.out.size
  clear ho
  clear HO_u4
  have HA_u5 : Hid (Blk u5 w.heap.size #[.int .i64 x.kind, .int .i64 x.frm, .int .i64 x.dst, .int .u64 x.num, .int .i64 x.node, .int .u64 x.life, .int .i64 x.n, .int .i64 x.op, .string x.key, .string x.val, .bool x.has, .int .i64 x.code] 27) := Blk.of HA_u4.out (y.block _ HA_u4.out.lt)
  have HY_u5 : Hid (Below w.heap.size w u5) := HY_u4.out.trans (y.mono HY_u4.out.size)
  clear y HA_u4 HY_u4
  simp only [Act.put, List.setIfInBounds_toArray, List.set_cons_succ, List.set_cons_zero]
  haveI nA := cls_ext u5
  refine wpAnyH_seg (by kernel_rfl) (fun _ _ _ h => h) [9] 0 _ _ _ (Ext.refl _) (by kernel_rfl) ?_
  simp only [opsAt, List.getElem?_toArray, List.getElem?_cons_zero, List.getElem?_cons_succ, List.cons_append, List.nil_append]
  repeat (go_big_quiet_step (fail))
  refine wpQuiet_nil ?_
  clear nA
  refine wpAnyH_done (by kernel_rfl) (NoPanic.normal ?_) 0
  have z0 : u5.cell? ⟨w.heap.size, 0, none⟩ = some (.int .i64 x.kind) := HA_u5.out.cell 0
  have z1 : u5.cell? ⟨w.heap.size, 1, none⟩ = some (.int .i64 x.frm) := HA_u5.out.cell 1
  have z2 : u5.cell? ⟨w.heap.size, 2, none⟩ = some (.int .i64 x.dst) := HA_u5.out.cell 2
  have z3 : u5.cell? ⟨w.heap.size, 3, none⟩ = some (.int .u64 x.num) := HA_u5.out.cell 3
  have z4 : u5.cell? ⟨w.heap.size, 4, none⟩ = some (.int .i64 x.node) := HA_u5.out.cell 4
  have z5 : u5.cell? ⟨w.heap.size, 5, none⟩ = some (.int .u64 x.life) := HA_u5.out.cell 5
  have z6 : u5.cell? ⟨w.heap.size, 6, none⟩ = some (.int .i64 x.n) := HA_u5.out.cell 6
  have z7 : u5.cell? ⟨w.heap.size, 7, none⟩ = some (.int .i64 x.op) := HA_u5.out.cell 7
  have z8 : u5.cell? ⟨w.heap.size, 8, none⟩ = some (.string x.key) := HA_u5.out.cell 8
  have z9 : u5.cell? ⟨w.heap.size, 9, none⟩ = some (.string x.val) := HA_u5.out.cell 9
  have z10 : u5.cell? ⟨w.heap.size, 10, none⟩ = some (.bool x.has) := HA_u5.out.cell 10
  have z11 : u5.cell? ⟨w.heap.size, 11, none⟩ = some (.int .i64 x.code) := HA_u5.out.cell 11
  go_wp2_with fail
  refine (tidM_any (some ⟨g3, 0, none⟩) L3.length c3 L3 x.num x.node _ HO_u5.out.src HTB.out (by have := HB3.out; omega)).mono ?_
  rintro e u6 ⟨g4, c4, rfl, ho, y⟩
  obtain ⟨L4, hL⟩ : ∃ y, y = join L3 (tidB x.num x.node) := ⟨_, rfl⟩
  rw [← hL] at ho ⊢
  have HL4 : Hid (L4 = join L3 (tidB x.num x.node)) := hL
  clear hL
  have HB4 : Hid (L4.length ≤ 400) := catB HL4.out HB3.out (tidB_len _ _)
  have HO_u6 : Hid (Own u6 w.heap.size (.slice (some ⟨g4, 0, none⟩) L4.length c4) L4) := ho.mono HY_u5.out.size
  clear ho
  clear HO_u5
  have HA_u6 : Hid (Blk u6 w.heap.size #[.int .i64 x.kind, .int .i64 x.frm, .int .i64 x.dst, .int .u64 x.num, .int .i64 x.node, .int .u64 x.life, .int .i64 x.n, .int .i64 x.op, .string x.key, .string x.val, .bool x.has, .int .i64 x.code] 27) := Blk.of HA_u5.out (y.block _ HA_u5.out.lt)
  have HY_u6 : Hid (Below w.heap.size w u6) := HY_u5.out.trans (y.mono HY_u5.out.size)
  clear y HA_u5 HY_u5
  clear z0 z1 z2 z3 z4 z5 z6 z7 z8 z9 z10 z11
  have z0 : u6.cell? ⟨w.heap.size, 0, none⟩ = some (.int .i64 x.kind) := HA_u6.out.cell 0
  have z1 : u6.cell? ⟨w.heap.size, 1, none⟩ = some (.int .i64 x.frm) := HA_u6.out.cell 1
  have z2 : u6.cell? ⟨w.heap.size, 2, none⟩ = some (.int .i64 x.dst) := HA_u6.out.cell 2
  have z3 : u6.cell? ⟨w.heap.size, 3, none⟩ = some (.int .u64 x.num) := HA_u6.out.cell 3
  have z4 : u6.cell? ⟨w.heap.size, 4, none⟩ = some (.int .i64 x.node) := HA_u6.out.cell 4
  have z5 : u6.cell? ⟨w.heap.size, 5, none⟩ = some (.int .u64 x.life) := HA_u6.out.cell 5
  have z6 : u6.cell? ⟨w.heap.size, 6, none⟩ = some (.int .i64 x.n) := HA_u6.out.cell 6
  have z7 : u6.cell? ⟨w.heap.size, 7, none⟩ = some (.int .i64 x.op) := HA_u6.out.cell 7
  have z8 : u6.cell? ⟨w.heap.size, 8, none⟩ = some (.string x.key) := HA_u6.out.cell 8
  have z9 : u6.cell? ⟨w.heap.size, 9, none⟩ = some (.string x.val) := HA_u6.out.cell 9
  have z10 : u6.cell? ⟨w.heap.size, 10, none⟩ = some (.bool x.has) := HA_u6.out.cell 10
  have z11 : u6.cell? ⟨w.heap.size, 11, none⟩ = some (.int .i64 x.code) := HA_u6.out.cell 11
  go_wp2_with fail
  refine (hasLife_any x _).mono ?_
  rintro e u7 ⟨rfl, y⟩
  rw [hl]
  have HA_u7 : Hid (Blk u7 w.heap.size #[.int .i64 x.kind, .int .i64 x.frm, .int .i64 x.dst, .int .u64 x.num, .int .i64 x.node, .int .u64 x.life, .int .i64 x.n, .int .i64 x.op, .string x.key, .string x.val, .bool x.has, .int .i64 x.code] 27) := Blk.of HA_u6.out (y.block _ HA_u6.out.lt)
  have HY_u7 : Hid (Below w.heap.size w u7) := HY_u6.out.trans (y.mono HY_u6.out.size)
  have HO_u7 : Hid (Own u7 w.heap.size (.slice (some ⟨g4, 0, none⟩) L4.length c4) L4) := HO_u6.out.below y
  clear y HA_u6 HY_u6 HO_u6
  clear z0 z1 z2 z3 z4 z5 z6 z7 z8 z9 z10 z11
  have z0 : u7.cell? ⟨w.heap.size, 0, none⟩ = some (.int .i64 x.kind) := HA_u7.out.cell 0
  have z1 : u7.cell? ⟨w.heap.size, 1, none⟩ = some (.int .i64 x.frm) := HA_u7.out.cell 1
  have z2 : u7.cell? ⟨w.heap.size, 2, none⟩ = some (.int .i64 x.dst) := HA_u7.out.cell 2
  have z3 : u7.cell? ⟨w.heap.size, 3, none⟩ = some (.int .u64 x.num) := HA_u7.out.cell 3
  have z4 : u7.cell? ⟨w.heap.size, 4, none⟩ = some (.int .i64 x.node) := HA_u7.out.cell 4
  have z5 : u7.cell? ⟨w.heap.size, 5, none⟩ = some (.int .u64 x.life) := HA_u7.out.cell 5
  have z6 : u7.cell? ⟨w.heap.size, 6, none⟩ = some (.int .i64 x.n) := HA_u7.out.cell 6
  have z7 : u7.cell? ⟨w.heap.size, 7, none⟩ = some (.int .i64 x.op) := HA_u7.out.cell 7
  have z8 : u7.cell? ⟨w.heap.size, 8, none⟩ = some (.string x.key) := HA_u7.out.cell 8
  have z9 : u7.cell? ⟨w.heap.size, 9, none⟩ = some (.string x.val) := HA_u7.out.cell 9
  have z10 : u7.cell? ⟨w.heap.size, 10, none⟩ = some (.bool x.has) := HA_u7.out.cell 10
  have z11 : u7.cell? ⟨w.heap.size, 11, none⟩ = some (.int .i64 x.code) := HA_u7.out.cell 11
  go_wp2_with fail
  refine (putM_any (some ⟨g4, 0, none⟩) L4.length c4 L4 x.life _ HO_u7.out.src HLB.out (by have := HB4.out; omega)).mono ?_
  rintro e u8 ⟨g5, c5, rfl, ho, y⟩
  obtain ⟨L5, hL⟩ : ∃ y, y = join L4 (intB x.life) := ⟨_, rfl⟩
  rw [← hL] at ho ⊢
  have HL5 : Hid (L5 = join L4 (intB x.life)) := hL
  clear hL
  have HB5 : Hid (L5.length ≤ 500) := catB HL5.out HB4.out (intB_len _)
  have HO_u8 : Hid (Own u8 w.heap.size (.slice (some ⟨g5, 0, none⟩) L5.length c5) L5) := ho.mono HY_u7.out.size
  clear ho
  clear HO_u7
  have HA_u8 : Hid (Blk u8 w.heap.size #[.int .i64 x.kind, .int .i64 x.frm, .int .i64 x.dst, .int .u64 x.num, .int .i64 x.node, .int .u64 x.life, .int .i64 x.n, .int .i64 x.op, .string x.key, .string x.val, .bool x.has, .int .i64 x.code] 27) := Blk.of HA_u7.out (y.block _ HA_u7.out.lt)
  have HY_u8 : Hid (Below w.heap.size w u8) := HY_u7.out.trans (y.mono HY_u7.out.size)
  clear y HA_u7 HY_u7
  clear z0 z1 z2 z3 z4 z5 z6 z7 z8 z9 z10 z11
  have z0 : u8.cell? ⟨w.heap.size, 0, none⟩ = some (.int .i64 x.kind) := HA_u8.out.cell 0
  have z1 : u8.cell? ⟨w.heap.size, 1, none⟩ = some (.int .i64 x.frm) := HA_u8.out.cell 1
  have z2 : u8.cell? ⟨w.heap.size, 2, none⟩ = some (.int .i64 x.dst) := HA_u8.out.cell 2
  have z3 : u8.cell? ⟨w.heap.size, 3, none⟩ = some (.int .u64 x.num) := HA_u8.out.cell 3
  have z4 : u8.cell? ⟨w.heap.size, 4, none⟩ = some (.int .i64 x.node) := HA_u8.out.cell 4
  have z5 : u8.cell? ⟨w.heap.size, 5, none⟩ = some (.int .u64 x.life) := HA_u8.out.cell 5
  have z6 : u8.cell? ⟨w.heap.size, 6, none⟩ = some (.int .i64 x.n) := HA_u8.out.cell 6
  have z7 : u8.cell? ⟨w.heap.size, 7, none⟩ = some (.int .i64 x.op) := HA_u8.out.cell 7
  have z8 : u8.cell? ⟨w.heap.size, 8, none⟩ = some (.string x.key) := HA_u8.out.cell 8
  have z9 : u8.cell? ⟨w.heap.size, 9, none⟩ = some (.string x.val) := HA_u8.out.cell 9
  have z10 : u8.cell? ⟨w.heap.size, 10, none⟩ = some (.bool x.has) := HA_u8.out.cell 10
  have z11 : u8.cell? ⟨w.heap.size, 11, none⟩ = some (.int .i64 x.code) := HA_u8.out.cell 11
  go_wp2_with fail
  refine (hasN_any x _).mono ?_
  rintro e u9 ⟨rfl, y⟩
  rw [hn]
  have HA_u9 : Hid (Blk u9 w.heap.size #[.int .i64 x.kind, .int .i64 x.frm, .int .i64 x.dst, .int .u64 x.num, .int .i64 x.node, .int .u64 x.life, .int .i64 x.n, .int .i64 x.op, .string x.key, .string x.val, .bool x.has, .int .i64 x.code] 27) := Blk.of HA_u8.out (y.block _ HA_u8.out.lt)
  have HY_u9 : Hid (Below w.heap.size w u9) := HY_u8.out.trans (y.mono HY_u8.out.size)
  have HO_u9 : Hid (Own u9 w.heap.size (.slice (some ⟨g5, 0, none⟩) L5.length c5) L5) := HO_u8.out.below y
  clear y HA_u8 HY_u8 HO_u8
  clear z0 z1 z2 z3 z4 z5 z6 z7 z8 z9 z10 z11
  have z0 : u9.cell? ⟨w.heap.size, 0, none⟩ = some (.int .i64 x.kind) := HA_u9.out.cell 0
  have z1 : u9.cell? ⟨w.heap.size, 1, none⟩ = some (.int .i64 x.frm) := HA_u9.out.cell 1
  have z2 : u9.cell? ⟨w.heap.size, 2, none⟩ = some (.int .i64 x.dst) := HA_u9.out.cell 2
  have z3 : u9.cell? ⟨w.heap.size, 3, none⟩ = some (.int .u64 x.num) := HA_u9.out.cell 3
  have z4 : u9.cell? ⟨w.heap.size, 4, none⟩ = some (.int .i64 x.node) := HA_u9.out.cell 4
  have z5 : u9.cell? ⟨w.heap.size, 5, none⟩ = some (.int .u64 x.life) := HA_u9.out.cell 5
  have z6 : u9.cell? ⟨w.heap.size, 6, none⟩ = some (.int .i64 x.n) := HA_u9.out.cell 6
  have z7 : u9.cell? ⟨w.heap.size, 7, none⟩ = some (.int .i64 x.op) := HA_u9.out.cell 7
  have z8 : u9.cell? ⟨w.heap.size, 8, none⟩ = some (.string x.key) := HA_u9.out.cell 8
  have z9 : u9.cell? ⟨w.heap.size, 9, none⟩ = some (.string x.val) := HA_u9.out.cell 9
  have z10 : u9.cell? ⟨w.heap.size, 10, none⟩ = some (.bool x.has) := HA_u9.out.cell 10
  have z11 : u9.cell? ⟨w.heap.size, 11, none⟩ = some (.int .i64 x.code) := HA_u9.out.cell 11
  go_wp2_with fail
  refine (smallM_any (some ⟨g5, 0, none⟩) L5.length c5 L5 x.n _ HO_u9.out.src HNB.out (by have := HB5.out; omega)).mono ?_
  rintro e u10 ⟨g6, c6, rfl, ho, y⟩
  obtain ⟨L6, hL⟩ : ∃ y, y = join L5 (intB x.n) := ⟨_, rfl⟩
  rw [← hL] at ho ⊢
  have HL6 : Hid (L6 = join L5 (intB x.n)) := hL
  clear hL
  have HB6 : Hid (L6.length ≤ 600) := catB HL6.out HB5.out (intB_len _)
  have HO_u10 : Hid (Own u10 w.heap.size (.slice (some ⟨g6, 0, none⟩) L6.length c6) L6) := ho.mono HY_u9.out.size
  clear ho
  clear HO_u9
  have HA_u10 : Hid (Blk u10 w.heap.size #[.int .i64 x.kind, .int .i64 x.frm, .int .i64 x.dst, .int .u64 x.num, .int .i64 x.node, .int .u64 x.life, .int .i64 x.n, .int .i64 x.op, .string x.key, .string x.val, .bool x.has, .int .i64 x.code] 27) := Blk.of HA_u9.out (y.block _ HA_u9.out.lt)
  have HY_u10 : Hid (Below w.heap.size w u10) := HY_u9.out.trans (y.mono HY_u9.out.size)
  clear y HA_u9 HY_u9
  clear z0 z1 z2 z3 z4 z5 z6 z7 z8 z9 z10 z11
  have z0 : u10.cell? ⟨w.heap.size, 0, none⟩ = some (.int .i64 x.kind) := HA_u10.out.cell 0
  have z1 : u10.cell? ⟨w.heap.size, 1, none⟩ = some (.int .i64 x.frm) := HA_u10.out.cell 1
  have z2 : u10.cell? ⟨w.heap.size, 2, none⟩ = some (.int .i64 x.dst) := HA_u10.out.cell 2
  have z3 : u10.cell? ⟨w.heap.size, 3, none⟩ = some (.int .u64 x.num) := HA_u10.out.cell 3
  have z4 : u10.cell? ⟨w.heap.size, 4, none⟩ = some (.int .i64 x.node) := HA_u10.out.cell 4
  have z5 : u10.cell? ⟨w.heap.size, 5, none⟩ = some (.int .u64 x.life) := HA_u10.out.cell 5
  have z6 : u10.cell? ⟨w.heap.size, 6, none⟩ = some (.int .i64 x.n) := HA_u10.out.cell 6
  have z7 : u10.cell? ⟨w.heap.size, 7, none⟩ = some (.int .i64 x.op) := HA_u10.out.cell 7
  have z8 : u10.cell? ⟨w.heap.size, 8, none⟩ = some (.string x.key) := HA_u10.out.cell 8
  have z9 : u10.cell? ⟨w.heap.size, 9, none⟩ = some (.string x.val) := HA_u10.out.cell 9
  have z10 : u10.cell? ⟨w.heap.size, 10, none⟩ = some (.bool x.has) := HA_u10.out.cell 10
  have z11 : u10.cell? ⟨w.heap.size, 11, none⟩ = some (.int .i64 x.code) := HA_u10.out.cell 11
  go_upto_region 10 with fail
  refine wp_region_ext (by kernel_rfl) ?_
  haveI nA := cls_ext u10.drew
  have q0 := cellX (W0 := u10.drew) (show u10.drew.cell? ⟨w.heap.size, 0, none⟩ = some (.int .i64 x.kind) from HA_u10.out.cell 0)
  have q1 := cellX (W0 := u10.drew) (show u10.drew.cell? ⟨w.heap.size, 1, none⟩ = some (.int .i64 x.frm) from HA_u10.out.cell 1)
  have q2 := cellX (W0 := u10.drew) (show u10.drew.cell? ⟨w.heap.size, 2, none⟩ = some (.int .i64 x.dst) from HA_u10.out.cell 2)
  have q3 := cellX (W0 := u10.drew) (show u10.drew.cell? ⟨w.heap.size, 3, none⟩ = some (.int .u64 x.num) from HA_u10.out.cell 3)
  have q4 := cellX (W0 := u10.drew) (show u10.drew.cell? ⟨w.heap.size, 4, none⟩ = some (.int .i64 x.node) from HA_u10.out.cell 4)
  have q5 := cellX (W0 := u10.drew) (show u10.drew.cell? ⟨w.heap.size, 5, none⟩ = some (.int .u64 x.life) from HA_u10.out.cell 5)
  have q6 := cellX (W0 := u10.drew) (show u10.drew.cell? ⟨w.heap.size, 6, none⟩ = some (.int .i64 x.n) from HA_u10.out.cell 6)
  have q7 := cellX (W0 := u10.drew) (show u10.drew.cell? ⟨w.heap.size, 7, none⟩ = some (.int .i64 x.op) from HA_u10.out.cell 7)
  have q8 := cellX (W0 := u10.drew) (show u10.drew.cell? ⟨w.heap.size, 8, none⟩ = some (.string x.key) from HA_u10.out.cell 8)
  have q9 := cellX (W0 := u10.drew) (show u10.drew.cell? ⟨w.heap.size, 9, none⟩ = some (.string x.val) from HA_u10.out.cell 9)
  have q10 := cellX (W0 := u10.drew) (show u10.drew.cell? ⟨w.heap.size, 10, none⟩ = some (.bool x.has) from HA_u10.out.cell 10)
  have q11 := cellX (W0 := u10.drew) (show u10.drew.cell? ⟨w.heap.size, 11, none⟩ = some (.int .i64 x.code) from HA_u10.out.cell 11)
  clear z0 z1 z2 z3 z4 z5 z6 z7 z8 z9 z10 z11
  refine wpAnyH_seg (by kernel_rfl) (fun _ _ _ h => h) [0, 1, 2, 4, 5, 7, 8] 4 _ _ _ (Ext.refl _) (by kernel_rfl) ?_
  simp only [opsAt, List.getElem?_toArray, List.getElem?_cons_zero, List.getElem?_cons_succ, List.cons_append, List.nil_append]
  repeat (go_big_quiet_step (fail))
  refine wpQuiet_nil ?_
  clear nA q0 q1 q2 q3 q4 q5 q6 q7 q8 q9 q10 q11
  have y : Below u10.heap.size u10 u10.drew := (Below.refl _ _).drew
  generalize u10.drew = u11 at *
  have HA_u11 : Hid (Blk u11 w.heap.size #[.int .i64 x.kind, .int .i64 x.frm, .int .i64 x.dst, .int .u64 x.num, .int .i64 x.node, .int .u64 x.life, .int .i64 x.n, .int .i64 x.op, .string x.key, .string x.val, .bool x.has, .int .i64 x.code] 27) := Blk.of HA_u10.out (y.block _ HA_u10.out.lt)
  have HY_u11 : Hid (Below w.heap.size w u11) := HY_u10.out.trans (y.mono HY_u10.out.size)
  have HO_u11 : Hid (Own u11 w.heap.size (.slice (some ⟨g6, 0, none⟩) L6.length c6) L6) := HO_u10.out.below y
  clear y HA_u10 HY_u10 HO_u10
  refine wpAnyH_callE (i := 3) (fuel := 3) 39 rfl (by kernel_rfl) rfl (Ext.refl _) (by kernel_rfl) (f := 13) (args := #[.slice (some ⟨g6, 0, none⟩) L6.length c6, .int .i64 x.op]) (by kernel_rfl) (smallM_any (some ⟨g6, 0, none⟩) L6.length c6 L6 x.op _ HO_u11.out.src HOB.out (by have := HB6.out; omega)) ?_
  rintro e u12 ⟨g7, c7, rfl, ho, y⟩
  refine ⟨_, rfl, y, ?_⟩
  obtain ⟨L7, hL⟩ : ∃ y, y = join L6 (intB x.op) := ⟨_, rfl⟩
  rw [← hL] at ho ⊢
  have HL7 : Hid (L7 = join L6 (intB x.op)) := hL
  clear hL
  have HB7 : Hid (L7.length ≤ 700) := catB HL7.out HB6.out (intB_len _)
  have HO_u12 : Hid (Own u12 w.heap.size (.slice (some ⟨g7, 0, none⟩) L7.length c7) L7) := ho.mono HY_u11.out.size
  clear ho
  clear HO_u11
  have HA_u12 : Hid (Blk u12 w.heap.size #[.int .i64 x.kind, .int .i64 x.frm, .int .i64 x.dst, .int .u64 x.num, .int .i64 x.node, .int .u64 x.life, .int .i64 x.n, .int .i64 x.op, .string x.key, .string x.val, .bool x.has, .int .i64 x.code] 27) := Blk.of HA_u11.out (y.block _ HA_u11.out.lt)
  have HY_u12 : Hid (Below w.heap.size w u12) := HY_u11.out.trans (y.mono HY_u11.out.size)
  clear y HA_u11 HY_u11
  simp only [Act.put, List.setIfInBounds_toArray, List.set_cons_succ, List.set_cons_zero]
  refine wpAnyH_callE (i := 6) (fuel := 2) 42 rfl (by kernel_rfl) rfl (Ext.refl _) (by kernel_rfl) (f := 18) (args := #[.slice (some ⟨g7, 0, none⟩) L7.length c7, .string x.key]) (by kernel_rfl) (textM_any (some ⟨g7, 0, none⟩) L7.length c7 L7 x.key _ HO_u12.out.src (by have := HKS.out; omega) (by have := HB7.out; omega)) ?_
  rintro e u13 ⟨g8, c8, rfl, ho, y⟩
  refine ⟨_, rfl, y, ?_⟩
  obtain ⟨L8, hL⟩ : ∃ y, y = join L7 (textB x.key) := ⟨_, rfl⟩
  rw [← hL] at ho ⊢
  have HL8 : Hid (L8 = join L7 (textB x.key)) := hL
  clear hL
  have HB8 : Hid (L8.length ≤ 800) := catB HL8.out HB7.out (textB_len HKS.out)
  have HO_u13 : Hid (Own u13 w.heap.size (.slice (some ⟨g8, 0, none⟩) L8.length c8) L8) := ho.mono HY_u12.out.size
  clear ho
  clear HO_u12
  have HA_u13 : Hid (Blk u13 w.heap.size #[.int .i64 x.kind, .int .i64 x.frm, .int .i64 x.dst, .int .u64 x.num, .int .i64 x.node, .int .u64 x.life, .int .i64 x.n, .int .i64 x.op, .string x.key, .string x.val, .bool x.has, .int .i64 x.code] 27) := Blk.of HA_u12.out (y.block _ HA_u12.out.lt)
  have HY_u13 : Hid (Below w.heap.size w u13) := HY_u12.out.trans (y.mono HY_u12.out.size)
  clear y HA_u12 HY_u12
  simp only [Act.put, List.setIfInBounds_toArray, List.set_cons_succ, List.set_cons_zero]
  refine wpAnyH_callE (i := 9) (fuel := 1) 45 rfl (by kernel_rfl) rfl (Ext.refl _) (by kernel_rfl) (f := 18) (args := #[.slice (some ⟨g8, 0, none⟩) L8.length c8, .string x.val]) (by kernel_rfl) (textM_any (some ⟨g8, 0, none⟩) L8.length c8 L8 x.val _ HO_u13.out.src (by have := HVS.out; omega) (by have := HB8.out; omega)) ?_
  rintro e u14 ⟨g9, c9, rfl, ho, y⟩
  refine ⟨_, rfl, y, ?_⟩
  obtain ⟨L9, hL⟩ : ∃ y, y = join L8 (textB x.val) := ⟨_, rfl⟩
  rw [← hL] at ho ⊢
  have HL9 : Hid (L9 = join L8 (textB x.val)) := hL
  clear hL
  have HB9 : Hid (L9.length ≤ 900) := catB HL9.out HB8.out (textB_len HVS.out)
  have HO_u14 : Hid (Own u14 w.heap.size (.slice (some ⟨g9, 0, none⟩) L9.length c9) L9) := ho.mono HY_u13.out.size
  clear ho
  clear HO_u13
  have HA_u14 : Hid (Blk u14 w.heap.size #[.int .i64 x.kind, .int .i64 x.frm, .int .i64 x.dst, .int .u64 x.num, .int .i64 x.node, .int .u64 x.life, .int .i64 x.n, .int .i64 x.op, .string x.key, .string x.val, .bool x.has, .int .i64 x.code] 27) := Blk.of HA_u13.out (y.block _ HA_u13.out.lt)
  have HY_u14 : Hid (Below w.heap.size w u14) := HY_u13.out.trans (y.mono HY_u13.out.size)
  clear y HA_u13 HY_u13
  simp only [Act.put, List.setIfInBounds_toArray, List.set_cons_succ, List.set_cons_zero]
  haveI nA := cls_ext u14
  refine wpAnyH_seg (by kernel_rfl) (fun _ _ _ h => h) [10] 0 _ _ _ (Ext.refl _) (by kernel_rfl) ?_
  simp only [opsAt, List.getElem?_toArray, List.getElem?_cons_zero, List.getElem?_cons_succ, List.cons_append, List.nil_append]
  repeat (go_big_quiet_step (fail))
  refine wpQuiet_nil ?_
  clear nA
  refine wpAnyH_done (by kernel_rfl) (NoPanic.normal ?_) 0
  have z0 : u14.cell? ⟨w.heap.size, 0, none⟩ = some (.int .i64 x.kind) := HA_u14.out.cell 0
  have z1 : u14.cell? ⟨w.heap.size, 1, none⟩ = some (.int .i64 x.frm) := HA_u14.out.cell 1
  have z2 : u14.cell? ⟨w.heap.size, 2, none⟩ = some (.int .i64 x.dst) := HA_u14.out.cell 2
  have z3 : u14.cell? ⟨w.heap.size, 3, none⟩ = some (.int .u64 x.num) := HA_u14.out.cell 3
  have z4 : u14.cell? ⟨w.heap.size, 4, none⟩ = some (.int .i64 x.node) := HA_u14.out.cell 4
  have z5 : u14.cell? ⟨w.heap.size, 5, none⟩ = some (.int .u64 x.life) := HA_u14.out.cell 5
  have z6 : u14.cell? ⟨w.heap.size, 6, none⟩ = some (.int .i64 x.n) := HA_u14.out.cell 6
  have z7 : u14.cell? ⟨w.heap.size, 7, none⟩ = some (.int .i64 x.op) := HA_u14.out.cell 7
  have z8 : u14.cell? ⟨w.heap.size, 8, none⟩ = some (.string x.key) := HA_u14.out.cell 8
  have z9 : u14.cell? ⟨w.heap.size, 9, none⟩ = some (.string x.val) := HA_u14.out.cell 9
  have z10 : u14.cell? ⟨w.heap.size, 10, none⟩ = some (.bool x.has) := HA_u14.out.cell 10
  have z11 : u14.cell? ⟨w.heap.size, 11, none⟩ = some (.int .i64 x.code) := HA_u14.out.cell 11
  go_wp2_with fail
  refine (hasCode_any x _).mono ?_
  rintro e u15 ⟨rfl, y⟩
  rw [hc]
  have HA_u15 : Hid (Blk u15 w.heap.size #[.int .i64 x.kind, .int .i64 x.frm, .int .i64 x.dst, .int .u64 x.num, .int .i64 x.node, .int .u64 x.life, .int .i64 x.n, .int .i64 x.op, .string x.key, .string x.val, .bool x.has, .int .i64 x.code] 27) := Blk.of HA_u14.out (y.block _ HA_u14.out.lt)
  have HY_u15 : Hid (Below w.heap.size w u15) := HY_u14.out.trans (y.mono HY_u14.out.size)
  have HO_u15 : Hid (Own u15 w.heap.size (.slice (some ⟨g9, 0, none⟩) L9.length c9) L9) := HO_u14.out.below y
  clear y HA_u14 HY_u14 HO_u14
  clear z0 z1 z2 z3 z4 z5 z6 z7 z8 z9 z10 z11
  have z0 : u15.cell? ⟨w.heap.size, 0, none⟩ = some (.int .i64 x.kind) := HA_u15.out.cell 0
  have z1 : u15.cell? ⟨w.heap.size, 1, none⟩ = some (.int .i64 x.frm) := HA_u15.out.cell 1
  have z2 : u15.cell? ⟨w.heap.size, 2, none⟩ = some (.int .i64 x.dst) := HA_u15.out.cell 2
  have z3 : u15.cell? ⟨w.heap.size, 3, none⟩ = some (.int .u64 x.num) := HA_u15.out.cell 3
  have z4 : u15.cell? ⟨w.heap.size, 4, none⟩ = some (.int .i64 x.node) := HA_u15.out.cell 4
  have z5 : u15.cell? ⟨w.heap.size, 5, none⟩ = some (.int .u64 x.life) := HA_u15.out.cell 5
  have z6 : u15.cell? ⟨w.heap.size, 6, none⟩ = some (.int .i64 x.n) := HA_u15.out.cell 6
  have z7 : u15.cell? ⟨w.heap.size, 7, none⟩ = some (.int .i64 x.op) := HA_u15.out.cell 7
  have z8 : u15.cell? ⟨w.heap.size, 8, none⟩ = some (.string x.key) := HA_u15.out.cell 8
  have z9 : u15.cell? ⟨w.heap.size, 9, none⟩ = some (.string x.val) := HA_u15.out.cell 9
  have z10 : u15.cell? ⟨w.heap.size, 10, none⟩ = some (.bool x.has) := HA_u15.out.cell 10
  have z11 : u15.cell? ⟨w.heap.size, 11, none⟩ = some (.int .i64 x.code) := HA_u15.out.cell 11
  have HEQ : Hid (L9 = msgB x) := by show _ = _; rw [HM.out, HL9.out, HL8.out, HL7.out, HL6.out, HL5.out, HL4.out, HL3.out, HL2.out, HL1.out]
  go_wp2
  go_ret2
  refine ⟨.inl ⟨HR.out, g9, c9, ?_, ?_⟩, HY_u15.out⟩
  · rw [HEQ.out]; rfl
  · have := HO_u15.out
    rw [HEQ.out] at this
    exact this
set_option maxRecDepth 100000 in
set_option maxHeartbeats 8000000 in
theorem encode4_any (x : MsgQ) (w : World) (hr : RightM x) (hw : x.Wf) (hk : x.kind = 4) : Calls Try.prog 8 #[.agg #[.int .i64 x.kind, .int .i64 x.frm, .int .i64 x.dst, .int .u64 x.num, .int .i64 x.node, .int .u64 x.life, .int .i64 x.n, .int .i64 x.op, .string x.key, .string x.val, .bool x.has, .int .i64 x.code]] w (EncM x w) := by
  have HR : Hid (RightM x) := hr
  have hl : hasLifeB x.kind = false := decide_eq_false (by omega)
  have hn : hasNB x.kind = true := decide_eq_true (by omega)
  have hc : hasCodeB x.kind = true := decide_eq_true (by omega)
  have e3 : (x.kind == 3) = false := by simp [hk]
  have e4 : (x.kind == 4) = true := by simp [hk]
  have HM : Hid (msgB x = (join (join (join (join (join (join (join (join [] (intB x.kind)) (intB x.frm)) (intB x.dst)) (tidB x.num x.node)) (intB x.n)) (intB x.code)) (enc (flagN x.has))) (textB x.val))) := by
    show _ = _
    unfold msgB bodyB lifeB nB doB codeB didB join
    rw [hl, hn, hc]
    simp [hk, List.append_assoc]
  have HKB : Hid (0 ≤ x.kind ∧ x.kind < 9223372036854775808) := by have := hr.kind; show _ ∧ _; omega
  have HFB : Hid (0 ≤ x.frm ∧ x.frm < 9223372036854775808) := by have := hr.frm; show _ ∧ _; omega
  have HDB : Hid (0 ≤ x.dst ∧ x.dst < 9223372036854775808) := by have := hr.dst; show _ ∧ _; omega
  have HTB : Hid (0 ≤ x.num ∧ x.num < 18446744073709551616) := hw.2.2.2.1
  have HLB : Hid (0 ≤ x.life ∧ x.life < 18446744073709551616) := hw.2.2.2.2.2.1
  have HNB : Hid (0 ≤ x.n ∧ x.n < 9223372036854775808) := by have := hr.n; show _ ∧ _; omega
  have HCB : Hid (0 ≤ x.code ∧ x.code < 9223372036854775808) := by have := hr.code; show _ ∧ _; omega
  have HKV : Hid (x.key.size ≤ 9223372036854775807 ∧ x.val.size ≤ 9223372036854775807) := ⟨hw.2.2.2.2.2.2.2.2.1, hw.2.2.2.2.2.2.2.2.2.1⟩
  have HVS : Hid (x.val.size ≤ 48) := by show _ ≤ _; rcases hr.val with e | e <;> omega
  have HRM : Hid (rightM x = true) := (right_iff x).2 hr
  clear hr hw hk
  have HA : Hid (Blk (w.alloc (.cells #[.int .i64 x.kind, .int .i64 x.frm, .int .i64 x.dst, .int .u64 x.num, .int .i64 x.node, .int .u64 x.life, .int .i64 x.n, .int .i64 x.op, .string x.key, .string x.val, .bool x.has, .int .i64 x.code] 27)) w.heap.size #[.int .i64 x.kind, .int .i64 x.frm, .int .i64 x.dst, .int .u64 x.num, .int .i64 x.node, .int .u64 x.life, .int .i64 x.n, .int .i64 x.op, .string x.key, .string x.val, .bool x.has, .int .i64 x.code] 27) := Blk.new _ _ _
  have HY : Hid (Below w.heap.size w (w.alloc (.cells #[.int .i64 x.kind, .int .i64 x.frm, .int .i64 x.dst, .int .u64 x.num, .int .i64 x.node, .int .u64 x.life, .int .i64 x.n, .int .i64 x.op, .string x.key, .string x.val, .bool x.has, .int .i64 x.code] 27))) := (Below.refl _ _).alloc (Nat.le_refl _) _
  go_enter Try.func8, Try.ntmps8
  go_upto_region 1 with fail
  generalize w.alloc (.cells #[.int .i64 x.kind, .int .i64 x.frm, .int .i64 x.dst, .int .u64 x.num, .int .i64 x.node, .int .u64 x.life, .int .i64 x.n, .int .i64 x.op, .string x.key, .string x.val, .bool x.has, .int .i64 x.code] 27) = w0 at *
  have z0 : w0.cell? ⟨w.heap.size, 0, none⟩ = some (.int .i64 x.kind) := HA.out.cell 0
  have z1 : w0.cell? ⟨w.heap.size, 1, none⟩ = some (.int .i64 x.frm) := HA.out.cell 1
  have z2 : w0.cell? ⟨w.heap.size, 2, none⟩ = some (.int .i64 x.dst) := HA.out.cell 2
  have z3 : w0.cell? ⟨w.heap.size, 3, none⟩ = some (.int .u64 x.num) := HA.out.cell 3
  have z4 : w0.cell? ⟨w.heap.size, 4, none⟩ = some (.int .i64 x.node) := HA.out.cell 4
  have z5 : w0.cell? ⟨w.heap.size, 5, none⟩ = some (.int .u64 x.life) := HA.out.cell 5
  have z6 : w0.cell? ⟨w.heap.size, 6, none⟩ = some (.int .i64 x.n) := HA.out.cell 6
  have z7 : w0.cell? ⟨w.heap.size, 7, none⟩ = some (.int .i64 x.op) := HA.out.cell 7
  have z8 : w0.cell? ⟨w.heap.size, 8, none⟩ = some (.string x.key) := HA.out.cell 8
  have z9 : w0.cell? ⟨w.heap.size, 9, none⟩ = some (.string x.val) := HA.out.cell 9
  have z10 : w0.cell? ⟨w.heap.size, 10, none⟩ = some (.bool x.has) := HA.out.cell 10
  have z11 : w0.cell? ⟨w.heap.size, 11, none⟩ = some (.int .i64 x.code) := HA.out.cell 11
  go_wp2_with fail
  refine (right15_any x _ HKV.out.1 HKV.out.2).mono ?_
  rintro e u1 ⟨rfl, y⟩
  rw [HRM.out]
  have HA_u1 : Hid (Blk u1 w.heap.size #[.int .i64 x.kind, .int .i64 x.frm, .int .i64 x.dst, .int .u64 x.num, .int .i64 x.node, .int .u64 x.life, .int .i64 x.n, .int .i64 x.op, .string x.key, .string x.val, .bool x.has, .int .i64 x.code] 27) := Blk.of HA.out (y.block _ HA.out.lt)
  have HY_u1 : Hid (Below w.heap.size w u1) := HY.out.trans (y.mono HY.out.size)
  clear y HA HY
  clear z0 z1 z2 z3 z4 z5 z6 z7 z8 z9 z10 z11
  have z0 : u1.cell? ⟨w.heap.size, 0, none⟩ = some (.int .i64 x.kind) := HA_u1.out.cell 0
  have z1 : u1.cell? ⟨w.heap.size, 1, none⟩ = some (.int .i64 x.frm) := HA_u1.out.cell 1
  have z2 : u1.cell? ⟨w.heap.size, 2, none⟩ = some (.int .i64 x.dst) := HA_u1.out.cell 2
  have z3 : u1.cell? ⟨w.heap.size, 3, none⟩ = some (.int .u64 x.num) := HA_u1.out.cell 3
  have z4 : u1.cell? ⟨w.heap.size, 4, none⟩ = some (.int .i64 x.node) := HA_u1.out.cell 4
  have z5 : u1.cell? ⟨w.heap.size, 5, none⟩ = some (.int .u64 x.life) := HA_u1.out.cell 5
  have z6 : u1.cell? ⟨w.heap.size, 6, none⟩ = some (.int .i64 x.n) := HA_u1.out.cell 6
  have z7 : u1.cell? ⟨w.heap.size, 7, none⟩ = some (.int .i64 x.op) := HA_u1.out.cell 7
  have z8 : u1.cell? ⟨w.heap.size, 8, none⟩ = some (.string x.key) := HA_u1.out.cell 8
  have z9 : u1.cell? ⟨w.heap.size, 9, none⟩ = some (.string x.val) := HA_u1.out.cell 9
  have z10 : u1.cell? ⟨w.heap.size, 10, none⟩ = some (.bool x.has) := HA_u1.out.cell 10
  have z11 : u1.cell? ⟨w.heap.size, 11, none⟩ = some (.int .i64 x.code) := HA_u1.out.cell 11
  go_upto_region 3 with fail
  refine wp_region_ext (by kernel_rfl) ?_
  haveI nA := cls_ext u1.drew
  have q0 := cellX (W0 := u1.drew) (show u1.drew.cell? ⟨w.heap.size, 0, none⟩ = some (.int .i64 x.kind) from HA_u1.out.cell 0)
  have q1 := cellX (W0 := u1.drew) (show u1.drew.cell? ⟨w.heap.size, 1, none⟩ = some (.int .i64 x.frm) from HA_u1.out.cell 1)
  have q2 := cellX (W0 := u1.drew) (show u1.drew.cell? ⟨w.heap.size, 2, none⟩ = some (.int .i64 x.dst) from HA_u1.out.cell 2)
  have q3 := cellX (W0 := u1.drew) (show u1.drew.cell? ⟨w.heap.size, 3, none⟩ = some (.int .u64 x.num) from HA_u1.out.cell 3)
  have q4 := cellX (W0 := u1.drew) (show u1.drew.cell? ⟨w.heap.size, 4, none⟩ = some (.int .i64 x.node) from HA_u1.out.cell 4)
  have q5 := cellX (W0 := u1.drew) (show u1.drew.cell? ⟨w.heap.size, 5, none⟩ = some (.int .u64 x.life) from HA_u1.out.cell 5)
  have q6 := cellX (W0 := u1.drew) (show u1.drew.cell? ⟨w.heap.size, 6, none⟩ = some (.int .i64 x.n) from HA_u1.out.cell 6)
  have q7 := cellX (W0 := u1.drew) (show u1.drew.cell? ⟨w.heap.size, 7, none⟩ = some (.int .i64 x.op) from HA_u1.out.cell 7)
  have q8 := cellX (W0 := u1.drew) (show u1.drew.cell? ⟨w.heap.size, 8, none⟩ = some (.string x.key) from HA_u1.out.cell 8)
  have q9 := cellX (W0 := u1.drew) (show u1.drew.cell? ⟨w.heap.size, 9, none⟩ = some (.string x.val) from HA_u1.out.cell 9)
  have q10 := cellX (W0 := u1.drew) (show u1.drew.cell? ⟨w.heap.size, 10, none⟩ = some (.bool x.has) from HA_u1.out.cell 10)
  have q11 := cellX (W0 := u1.drew) (show u1.drew.cell? ⟨w.heap.size, 11, none⟩ = some (.int .i64 x.code) from HA_u1.out.cell 11)
  clear z0 z1 z2 z3 z4 z5 z6 z7 z8 z9 z10 z11
  refine wpAnyH_seg (by kernel_rfl) (fun _ _ _ h => h) [0, 1, 3, 4, 6, 7] 4 _ _ _ (Ext.refl _) (by kernel_rfl) ?_
  simp only [opsAt, List.getElem?_toArray, List.getElem?_cons_zero, List.getElem?_cons_succ, List.cons_append, List.nil_append]
  repeat (go_big_quiet_step (fail))
  refine wpQuiet_nil ?_
  clear nA q0 q1 q2 q3 q4 q5 q6 q7 q8 q9 q10 q11
  have y : Below u1.heap.size u1 u1.drew := (Below.refl _ _).drew
  generalize u1.drew = u2 at *
  have HA_u2 : Hid (Blk u2 w.heap.size #[.int .i64 x.kind, .int .i64 x.frm, .int .i64 x.dst, .int .u64 x.num, .int .i64 x.node, .int .u64 x.life, .int .i64 x.n, .int .i64 x.op, .string x.key, .string x.val, .bool x.has, .int .i64 x.code] 27) := Blk.of HA_u1.out (y.block _ HA_u1.out.lt)
  have HY_u2 : Hid (Below w.heap.size w u2) := HY_u1.out.trans (y.mono HY_u1.out.size)
  clear y HA_u1 HY_u1
  refine wpAnyH_callE (i := 2) (fuel := 3) 10 rfl (by kernel_rfl) rfl (Ext.refl _) (by kernel_rfl) (f := 13) (args := #[.slice none 0 0, .int .i64 x.kind]) (by kernel_rfl) (smallM_any none 0 0 [] x.kind _ (Src.nil _) HKB.out (by simp)) ?_
  rintro e u3 ⟨g1, c1, rfl, ho, y⟩
  refine ⟨_, rfl, y, ?_⟩
  obtain ⟨L1, hL⟩ : ∃ y, y = join [] (intB x.kind) := ⟨_, rfl⟩
  rw [← hL] at ho ⊢
  have HL1 : Hid (L1 = join [] (intB x.kind)) := hL
  clear hL
  have HB1 : Hid (L1.length ≤ 100) := catB HL1.out (Nat.zero_le _) (intB_len _)
  have HO_u3 : Hid (Own u3 w.heap.size (.slice (some ⟨g1, 0, none⟩) L1.length c1) L1) := ho.mono HY_u2.out.size
  clear ho
  have HA_u3 : Hid (Blk u3 w.heap.size #[.int .i64 x.kind, .int .i64 x.frm, .int .i64 x.dst, .int .u64 x.num, .int .i64 x.node, .int .u64 x.life, .int .i64 x.n, .int .i64 x.op, .string x.key, .string x.val, .bool x.has, .int .i64 x.code] 27) := Blk.of HA_u2.out (y.block _ HA_u2.out.lt)
  have HY_u3 : Hid (Below w.heap.size w u3) := HY_u2.out.trans (y.mono HY_u2.out.size)
  clear y HA_u2 HY_u2
  simp only [Act.put, List.setIfInBounds_toArray, List.set_cons_succ, List.set_cons_zero]
  refine wpAnyH_callE (i := 5) (fuel := 2) 13 rfl (by kernel_rfl) rfl (Ext.refl _) (by kernel_rfl) (f := 13) (args := #[.slice (some ⟨g1, 0, none⟩) L1.length c1, .int .i64 x.frm]) (by kernel_rfl) (smallM_any (some ⟨g1, 0, none⟩) L1.length c1 L1 x.frm _ HO_u3.out.src HFB.out (by have := HB1.out; omega)) ?_
  rintro e u4 ⟨g2, c2, rfl, ho, y⟩
  refine ⟨_, rfl, y, ?_⟩
  obtain ⟨L2, hL⟩ : ∃ y, y = join L1 (intB x.frm) := ⟨_, rfl⟩
  rw [← hL] at ho ⊢
  have HL2 : Hid (L2 = join L1 (intB x.frm)) := hL
  clear hL
  have HB2 : Hid (L2.length ≤ 200) := catB HL2.out HB1.out (intB_len _)
  have HO_u4 : Hid (Own u4 w.heap.size (.slice (some ⟨g2, 0, none⟩) L2.length c2) L2) := ho.mono HY_u3.out.size
  clear ho
  clear HO_u3
  have HA_u4 : Hid (Blk u4 w.heap.size #[.int .i64 x.kind, .int .i64 x.frm, .int .i64 x.dst, .int .u64 x.num, .int .i64 x.node, .int .u64 x.life, .int .i64 x.n, .int .i64 x.op, .string x.key, .string x.val, .bool x.has, .int .i64 x.code] 27) := Blk.of HA_u3.out (y.block _ HA_u3.out.lt)
  have HY_u4 : Hid (Below w.heap.size w u4) := HY_u3.out.trans (y.mono HY_u3.out.size)
  clear y HA_u3 HY_u3
  simp only [Act.put, List.setIfInBounds_toArray, List.set_cons_succ, List.set_cons_zero]
  refine wpAnyH_callE (i := 8) (fuel := 1) 16 rfl (by kernel_rfl) rfl (Ext.refl _) (by kernel_rfl) (f := 13) (args := #[.slice (some ⟨g2, 0, none⟩) L2.length c2, .int .i64 x.dst]) (by kernel_rfl) (smallM_any (some ⟨g2, 0, none⟩) L2.length c2 L2 x.dst _ HO_u4.out.src HDB.out (by have := HB2.out; omega)) ?_
  rintro e u5 ⟨g3, c3, rfl, ho, y⟩
  refine ⟨_, rfl, y, ?_⟩
  obtain ⟨L3, hL⟩ : ∃ y, y = join L2 (intB x.dst) := ⟨_, rfl⟩
  rw [← hL] at ho ⊢
  have HL3 : Hid (L3 = join L2 (intB x.dst)) := hL
  clear hL
  have HB3 : Hid (L3.length ≤ 300) := catB HL3.out HB2.out (intB_len _)
  have HO_u5 : Hid (Own u5 w.heap.size (.slice (some ⟨g3, 0, none⟩) L3.length c3) L3) := ho.mono HY_u4.out.size
  clear ho
  clear HO_u4
  have HA_u5 : Hid (Blk u5 w.heap.size #[.int .i64 x.kind, .int .i64 x.frm, .int .i64 x.dst, .int .u64 x.num, .int .i64 x.node, .int .u64 x.life, .int .i64 x.n, .int .i64 x.op, .string x.key, .string x.val, .bool x.has, .int .i64 x.code] 27) := Blk.of HA_u4.out (y.block _ HA_u4.out.lt)
  have HY_u5 : Hid (Below w.heap.size w u5) := HY_u4.out.trans (y.mono HY_u4.out.size)
  clear y HA_u4 HY_u4
  simp only [Act.put, List.setIfInBounds_toArray, List.set_cons_succ, List.set_cons_zero]
  haveI nA := cls_ext u5
  refine wpAnyH_seg (by kernel_rfl) (fun _ _ _ h => h) [9] 0 _ _ _ (Ext.refl _) (by kernel_rfl) ?_
  simp only [opsAt, List.getElem?_toArray, List.getElem?_cons_zero, List.getElem?_cons_succ, List.cons_append, List.nil_append]
  repeat (go_big_quiet_step (fail))
  refine wpQuiet_nil ?_
  clear nA
  refine wpAnyH_done (by kernel_rfl) (NoPanic.normal ?_) 0
  have z0 : u5.cell? ⟨w.heap.size, 0, none⟩ = some (.int .i64 x.kind) := HA_u5.out.cell 0
  have z1 : u5.cell? ⟨w.heap.size, 1, none⟩ = some (.int .i64 x.frm) := HA_u5.out.cell 1
  have z2 : u5.cell? ⟨w.heap.size, 2, none⟩ = some (.int .i64 x.dst) := HA_u5.out.cell 2
  have z3 : u5.cell? ⟨w.heap.size, 3, none⟩ = some (.int .u64 x.num) := HA_u5.out.cell 3
  have z4 : u5.cell? ⟨w.heap.size, 4, none⟩ = some (.int .i64 x.node) := HA_u5.out.cell 4
  have z5 : u5.cell? ⟨w.heap.size, 5, none⟩ = some (.int .u64 x.life) := HA_u5.out.cell 5
  have z6 : u5.cell? ⟨w.heap.size, 6, none⟩ = some (.int .i64 x.n) := HA_u5.out.cell 6
  have z7 : u5.cell? ⟨w.heap.size, 7, none⟩ = some (.int .i64 x.op) := HA_u5.out.cell 7
  have z8 : u5.cell? ⟨w.heap.size, 8, none⟩ = some (.string x.key) := HA_u5.out.cell 8
  have z9 : u5.cell? ⟨w.heap.size, 9, none⟩ = some (.string x.val) := HA_u5.out.cell 9
  have z10 : u5.cell? ⟨w.heap.size, 10, none⟩ = some (.bool x.has) := HA_u5.out.cell 10
  have z11 : u5.cell? ⟨w.heap.size, 11, none⟩ = some (.int .i64 x.code) := HA_u5.out.cell 11
  go_wp2_with fail
  refine (tidM_any (some ⟨g3, 0, none⟩) L3.length c3 L3 x.num x.node _ HO_u5.out.src HTB.out (by have := HB3.out; omega)).mono ?_
  rintro e u6 ⟨g4, c4, rfl, ho, y⟩
  obtain ⟨L4, hL⟩ : ∃ y, y = join L3 (tidB x.num x.node) := ⟨_, rfl⟩
  rw [← hL] at ho ⊢
  have HL4 : Hid (L4 = join L3 (tidB x.num x.node)) := hL
  clear hL
  have HB4 : Hid (L4.length ≤ 400) := catB HL4.out HB3.out (tidB_len _ _)
  have HO_u6 : Hid (Own u6 w.heap.size (.slice (some ⟨g4, 0, none⟩) L4.length c4) L4) := ho.mono HY_u5.out.size
  clear ho
  clear HO_u5
  have HA_u6 : Hid (Blk u6 w.heap.size #[.int .i64 x.kind, .int .i64 x.frm, .int .i64 x.dst, .int .u64 x.num, .int .i64 x.node, .int .u64 x.life, .int .i64 x.n, .int .i64 x.op, .string x.key, .string x.val, .bool x.has, .int .i64 x.code] 27) := Blk.of HA_u5.out (y.block _ HA_u5.out.lt)
  have HY_u6 : Hid (Below w.heap.size w u6) := HY_u5.out.trans (y.mono HY_u5.out.size)
  clear y HA_u5 HY_u5
  clear z0 z1 z2 z3 z4 z5 z6 z7 z8 z9 z10 z11
  have z0 : u6.cell? ⟨w.heap.size, 0, none⟩ = some (.int .i64 x.kind) := HA_u6.out.cell 0
  have z1 : u6.cell? ⟨w.heap.size, 1, none⟩ = some (.int .i64 x.frm) := HA_u6.out.cell 1
  have z2 : u6.cell? ⟨w.heap.size, 2, none⟩ = some (.int .i64 x.dst) := HA_u6.out.cell 2
  have z3 : u6.cell? ⟨w.heap.size, 3, none⟩ = some (.int .u64 x.num) := HA_u6.out.cell 3
  have z4 : u6.cell? ⟨w.heap.size, 4, none⟩ = some (.int .i64 x.node) := HA_u6.out.cell 4
  have z5 : u6.cell? ⟨w.heap.size, 5, none⟩ = some (.int .u64 x.life) := HA_u6.out.cell 5
  have z6 : u6.cell? ⟨w.heap.size, 6, none⟩ = some (.int .i64 x.n) := HA_u6.out.cell 6
  have z7 : u6.cell? ⟨w.heap.size, 7, none⟩ = some (.int .i64 x.op) := HA_u6.out.cell 7
  have z8 : u6.cell? ⟨w.heap.size, 8, none⟩ = some (.string x.key) := HA_u6.out.cell 8
  have z9 : u6.cell? ⟨w.heap.size, 9, none⟩ = some (.string x.val) := HA_u6.out.cell 9
  have z10 : u6.cell? ⟨w.heap.size, 10, none⟩ = some (.bool x.has) := HA_u6.out.cell 10
  have z11 : u6.cell? ⟨w.heap.size, 11, none⟩ = some (.int .i64 x.code) := HA_u6.out.cell 11
  go_wp2_with fail
  refine (hasLife_any x _).mono ?_
  rintro e u7 ⟨rfl, y⟩
  rw [hl]
  have HA_u7 : Hid (Blk u7 w.heap.size #[.int .i64 x.kind, .int .i64 x.frm, .int .i64 x.dst, .int .u64 x.num, .int .i64 x.node, .int .u64 x.life, .int .i64 x.n, .int .i64 x.op, .string x.key, .string x.val, .bool x.has, .int .i64 x.code] 27) := Blk.of HA_u6.out (y.block _ HA_u6.out.lt)
  have HY_u7 : Hid (Below w.heap.size w u7) := HY_u6.out.trans (y.mono HY_u6.out.size)
  have HO_u7 : Hid (Own u7 w.heap.size (.slice (some ⟨g4, 0, none⟩) L4.length c4) L4) := HO_u6.out.below y
  clear y HA_u6 HY_u6 HO_u6
  clear z0 z1 z2 z3 z4 z5 z6 z7 z8 z9 z10 z11
  have z0 : u7.cell? ⟨w.heap.size, 0, none⟩ = some (.int .i64 x.kind) := HA_u7.out.cell 0
  have z1 : u7.cell? ⟨w.heap.size, 1, none⟩ = some (.int .i64 x.frm) := HA_u7.out.cell 1
  have z2 : u7.cell? ⟨w.heap.size, 2, none⟩ = some (.int .i64 x.dst) := HA_u7.out.cell 2
  have z3 : u7.cell? ⟨w.heap.size, 3, none⟩ = some (.int .u64 x.num) := HA_u7.out.cell 3
  have z4 : u7.cell? ⟨w.heap.size, 4, none⟩ = some (.int .i64 x.node) := HA_u7.out.cell 4
  have z5 : u7.cell? ⟨w.heap.size, 5, none⟩ = some (.int .u64 x.life) := HA_u7.out.cell 5
  have z6 : u7.cell? ⟨w.heap.size, 6, none⟩ = some (.int .i64 x.n) := HA_u7.out.cell 6
  have z7 : u7.cell? ⟨w.heap.size, 7, none⟩ = some (.int .i64 x.op) := HA_u7.out.cell 7
  have z8 : u7.cell? ⟨w.heap.size, 8, none⟩ = some (.string x.key) := HA_u7.out.cell 8
  have z9 : u7.cell? ⟨w.heap.size, 9, none⟩ = some (.string x.val) := HA_u7.out.cell 9
  have z10 : u7.cell? ⟨w.heap.size, 10, none⟩ = some (.bool x.has) := HA_u7.out.cell 10
  have z11 : u7.cell? ⟨w.heap.size, 11, none⟩ = some (.int .i64 x.code) := HA_u7.out.cell 11
  go_wp2_with fail
  refine (hasN_any x _).mono ?_
  rintro e u8 ⟨rfl, y⟩
  rw [hn]
  have HA_u8 : Hid (Blk u8 w.heap.size #[.int .i64 x.kind, .int .i64 x.frm, .int .i64 x.dst, .int .u64 x.num, .int .i64 x.node, .int .u64 x.life, .int .i64 x.n, .int .i64 x.op, .string x.key, .string x.val, .bool x.has, .int .i64 x.code] 27) := Blk.of HA_u7.out (y.block _ HA_u7.out.lt)
  have HY_u8 : Hid (Below w.heap.size w u8) := HY_u7.out.trans (y.mono HY_u7.out.size)
  have HO_u8 : Hid (Own u8 w.heap.size (.slice (some ⟨g4, 0, none⟩) L4.length c4) L4) := HO_u7.out.below y
  clear y HA_u7 HY_u7 HO_u7
  clear z0 z1 z2 z3 z4 z5 z6 z7 z8 z9 z10 z11
  have z0 : u8.cell? ⟨w.heap.size, 0, none⟩ = some (.int .i64 x.kind) := HA_u8.out.cell 0
  have z1 : u8.cell? ⟨w.heap.size, 1, none⟩ = some (.int .i64 x.frm) := HA_u8.out.cell 1
  have z2 : u8.cell? ⟨w.heap.size, 2, none⟩ = some (.int .i64 x.dst) := HA_u8.out.cell 2
  have z3 : u8.cell? ⟨w.heap.size, 3, none⟩ = some (.int .u64 x.num) := HA_u8.out.cell 3
  have z4 : u8.cell? ⟨w.heap.size, 4, none⟩ = some (.int .i64 x.node) := HA_u8.out.cell 4
  have z5 : u8.cell? ⟨w.heap.size, 5, none⟩ = some (.int .u64 x.life) := HA_u8.out.cell 5
  have z6 : u8.cell? ⟨w.heap.size, 6, none⟩ = some (.int .i64 x.n) := HA_u8.out.cell 6
  have z7 : u8.cell? ⟨w.heap.size, 7, none⟩ = some (.int .i64 x.op) := HA_u8.out.cell 7
  have z8 : u8.cell? ⟨w.heap.size, 8, none⟩ = some (.string x.key) := HA_u8.out.cell 8
  have z9 : u8.cell? ⟨w.heap.size, 9, none⟩ = some (.string x.val) := HA_u8.out.cell 9
  have z10 : u8.cell? ⟨w.heap.size, 10, none⟩ = some (.bool x.has) := HA_u8.out.cell 10
  have z11 : u8.cell? ⟨w.heap.size, 11, none⟩ = some (.int .i64 x.code) := HA_u8.out.cell 11
  go_wp2_with fail
  refine (smallM_any (some ⟨g4, 0, none⟩) L4.length c4 L4 x.n _ HO_u8.out.src HNB.out (by have := HB4.out; omega)).mono ?_
  rintro e u9 ⟨g5, c5, rfl, ho, y⟩
  obtain ⟨L5, hL⟩ : ∃ y, y = join L4 (intB x.n) := ⟨_, rfl⟩
  rw [← hL] at ho ⊢
  have HL5 : Hid (L5 = join L4 (intB x.n)) := hL
  clear hL
  have HB5 : Hid (L5.length ≤ 500) := catB HL5.out HB4.out (intB_len _)
  have HO_u9 : Hid (Own u9 w.heap.size (.slice (some ⟨g5, 0, none⟩) L5.length c5) L5) := ho.mono HY_u8.out.size
  clear ho
  clear HO_u8
  have HA_u9 : Hid (Blk u9 w.heap.size #[.int .i64 x.kind, .int .i64 x.frm, .int .i64 x.dst, .int .u64 x.num, .int .i64 x.node, .int .u64 x.life, .int .i64 x.n, .int .i64 x.op, .string x.key, .string x.val, .bool x.has, .int .i64 x.code] 27) := Blk.of HA_u8.out (y.block _ HA_u8.out.lt)
  have HY_u9 : Hid (Below w.heap.size w u9) := HY_u8.out.trans (y.mono HY_u8.out.size)
  clear y HA_u8 HY_u8
  clear z0 z1 z2 z3 z4 z5 z6 z7 z8 z9 z10 z11
  have z0 : u9.cell? ⟨w.heap.size, 0, none⟩ = some (.int .i64 x.kind) := HA_u9.out.cell 0
  have z1 : u9.cell? ⟨w.heap.size, 1, none⟩ = some (.int .i64 x.frm) := HA_u9.out.cell 1
  have z2 : u9.cell? ⟨w.heap.size, 2, none⟩ = some (.int .i64 x.dst) := HA_u9.out.cell 2
  have z3 : u9.cell? ⟨w.heap.size, 3, none⟩ = some (.int .u64 x.num) := HA_u9.out.cell 3
  have z4 : u9.cell? ⟨w.heap.size, 4, none⟩ = some (.int .i64 x.node) := HA_u9.out.cell 4
  have z5 : u9.cell? ⟨w.heap.size, 5, none⟩ = some (.int .u64 x.life) := HA_u9.out.cell 5
  have z6 : u9.cell? ⟨w.heap.size, 6, none⟩ = some (.int .i64 x.n) := HA_u9.out.cell 6
  have z7 : u9.cell? ⟨w.heap.size, 7, none⟩ = some (.int .i64 x.op) := HA_u9.out.cell 7
  have z8 : u9.cell? ⟨w.heap.size, 8, none⟩ = some (.string x.key) := HA_u9.out.cell 8
  have z9 : u9.cell? ⟨w.heap.size, 9, none⟩ = some (.string x.val) := HA_u9.out.cell 9
  have z10 : u9.cell? ⟨w.heap.size, 10, none⟩ = some (.bool x.has) := HA_u9.out.cell 10
  have z11 : u9.cell? ⟨w.heap.size, 11, none⟩ = some (.int .i64 x.code) := HA_u9.out.cell 11
  go_wp2_with fail
  refine (hasCode_any x _).mono ?_
  rintro e u10 ⟨rfl, y⟩
  rw [hc]
  have HA_u10 : Hid (Blk u10 w.heap.size #[.int .i64 x.kind, .int .i64 x.frm, .int .i64 x.dst, .int .u64 x.num, .int .i64 x.node, .int .u64 x.life, .int .i64 x.n, .int .i64 x.op, .string x.key, .string x.val, .bool x.has, .int .i64 x.code] 27) := Blk.of HA_u9.out (y.block _ HA_u9.out.lt)
  have HY_u10 : Hid (Below w.heap.size w u10) := HY_u9.out.trans (y.mono HY_u9.out.size)
  have HO_u10 : Hid (Own u10 w.heap.size (.slice (some ⟨g5, 0, none⟩) L5.length c5) L5) := HO_u9.out.below y
  clear y HA_u9 HY_u9 HO_u9
  clear z0 z1 z2 z3 z4 z5 z6 z7 z8 z9 z10 z11
  have z0 : u10.cell? ⟨w.heap.size, 0, none⟩ = some (.int .i64 x.kind) := HA_u10.out.cell 0
  have z1 : u10.cell? ⟨w.heap.size, 1, none⟩ = some (.int .i64 x.frm) := HA_u10.out.cell 1
  have z2 : u10.cell? ⟨w.heap.size, 2, none⟩ = some (.int .i64 x.dst) := HA_u10.out.cell 2
  have z3 : u10.cell? ⟨w.heap.size, 3, none⟩ = some (.int .u64 x.num) := HA_u10.out.cell 3
  have z4 : u10.cell? ⟨w.heap.size, 4, none⟩ = some (.int .i64 x.node) := HA_u10.out.cell 4
  have z5 : u10.cell? ⟨w.heap.size, 5, none⟩ = some (.int .u64 x.life) := HA_u10.out.cell 5
  have z6 : u10.cell? ⟨w.heap.size, 6, none⟩ = some (.int .i64 x.n) := HA_u10.out.cell 6
  have z7 : u10.cell? ⟨w.heap.size, 7, none⟩ = some (.int .i64 x.op) := HA_u10.out.cell 7
  have z8 : u10.cell? ⟨w.heap.size, 8, none⟩ = some (.string x.key) := HA_u10.out.cell 8
  have z9 : u10.cell? ⟨w.heap.size, 9, none⟩ = some (.string x.val) := HA_u10.out.cell 9
  have z10 : u10.cell? ⟨w.heap.size, 10, none⟩ = some (.bool x.has) := HA_u10.out.cell 10
  have z11 : u10.cell? ⟨w.heap.size, 11, none⟩ = some (.int .i64 x.code) := HA_u10.out.cell 11
  go_wp2_with fail
  refine (smallM_any (some ⟨g5, 0, none⟩) L5.length c5 L5 x.code _ HO_u10.out.src HCB.out (by have := HB5.out; omega)).mono ?_
  rintro e u11 ⟨g6, c6, rfl, ho, y⟩
  obtain ⟨L6, hL⟩ : ∃ y, y = join L5 (intB x.code) := ⟨_, rfl⟩
  rw [← hL] at ho ⊢
  have HL6 : Hid (L6 = join L5 (intB x.code)) := hL
  clear hL
  have HB6 : Hid (L6.length ≤ 600) := catB HL6.out HB5.out (intB_len _)
  have HO_u11 : Hid (Own u11 w.heap.size (.slice (some ⟨g6, 0, none⟩) L6.length c6) L6) := ho.mono HY_u10.out.size
  clear ho
  clear HO_u10
  have HA_u11 : Hid (Blk u11 w.heap.size #[.int .i64 x.kind, .int .i64 x.frm, .int .i64 x.dst, .int .u64 x.num, .int .i64 x.node, .int .u64 x.life, .int .i64 x.n, .int .i64 x.op, .string x.key, .string x.val, .bool x.has, .int .i64 x.code] 27) := Blk.of HA_u10.out (y.block _ HA_u10.out.lt)
  have HY_u11 : Hid (Below w.heap.size w u11) := HY_u10.out.trans (y.mono HY_u10.out.size)
  clear y HA_u10 HY_u10
  clear z0 z1 z2 z3 z4 z5 z6 z7 z8 z9 z10 z11
  have z0 : u11.cell? ⟨w.heap.size, 0, none⟩ = some (.int .i64 x.kind) := HA_u11.out.cell 0
  have z1 : u11.cell? ⟨w.heap.size, 1, none⟩ = some (.int .i64 x.frm) := HA_u11.out.cell 1
  have z2 : u11.cell? ⟨w.heap.size, 2, none⟩ = some (.int .i64 x.dst) := HA_u11.out.cell 2
  have z3 : u11.cell? ⟨w.heap.size, 3, none⟩ = some (.int .u64 x.num) := HA_u11.out.cell 3
  have z4 : u11.cell? ⟨w.heap.size, 4, none⟩ = some (.int .i64 x.node) := HA_u11.out.cell 4
  have z5 : u11.cell? ⟨w.heap.size, 5, none⟩ = some (.int .u64 x.life) := HA_u11.out.cell 5
  have z6 : u11.cell? ⟨w.heap.size, 6, none⟩ = some (.int .i64 x.n) := HA_u11.out.cell 6
  have z7 : u11.cell? ⟨w.heap.size, 7, none⟩ = some (.int .i64 x.op) := HA_u11.out.cell 7
  have z8 : u11.cell? ⟨w.heap.size, 8, none⟩ = some (.string x.key) := HA_u11.out.cell 8
  have z9 : u11.cell? ⟨w.heap.size, 9, none⟩ = some (.string x.val) := HA_u11.out.cell 9
  have z10 : u11.cell? ⟨w.heap.size, 10, none⟩ = some (.bool x.has) := HA_u11.out.cell 10
  have z11 : u11.cell? ⟨w.heap.size, 11, none⟩ = some (.int .i64 x.code) := HA_u11.out.cell 11
  go_upto_region 14 with fail
  refine wp_region_ext (by kernel_rfl) ?_
  haveI nA := cls_ext u11.drew
  have q0 := cellX (W0 := u11.drew) (show u11.drew.cell? ⟨w.heap.size, 0, none⟩ = some (.int .i64 x.kind) from HA_u11.out.cell 0)
  have q1 := cellX (W0 := u11.drew) (show u11.drew.cell? ⟨w.heap.size, 1, none⟩ = some (.int .i64 x.frm) from HA_u11.out.cell 1)
  have q2 := cellX (W0 := u11.drew) (show u11.drew.cell? ⟨w.heap.size, 2, none⟩ = some (.int .i64 x.dst) from HA_u11.out.cell 2)
  have q3 := cellX (W0 := u11.drew) (show u11.drew.cell? ⟨w.heap.size, 3, none⟩ = some (.int .u64 x.num) from HA_u11.out.cell 3)
  have q4 := cellX (W0 := u11.drew) (show u11.drew.cell? ⟨w.heap.size, 4, none⟩ = some (.int .i64 x.node) from HA_u11.out.cell 4)
  have q5 := cellX (W0 := u11.drew) (show u11.drew.cell? ⟨w.heap.size, 5, none⟩ = some (.int .u64 x.life) from HA_u11.out.cell 5)
  have q6 := cellX (W0 := u11.drew) (show u11.drew.cell? ⟨w.heap.size, 6, none⟩ = some (.int .i64 x.n) from HA_u11.out.cell 6)
  have q7 := cellX (W0 := u11.drew) (show u11.drew.cell? ⟨w.heap.size, 7, none⟩ = some (.int .i64 x.op) from HA_u11.out.cell 7)
  have q8 := cellX (W0 := u11.drew) (show u11.drew.cell? ⟨w.heap.size, 8, none⟩ = some (.string x.key) from HA_u11.out.cell 8)
  have q9 := cellX (W0 := u11.drew) (show u11.drew.cell? ⟨w.heap.size, 9, none⟩ = some (.string x.val) from HA_u11.out.cell 9)
  have q10 := cellX (W0 := u11.drew) (show u11.drew.cell? ⟨w.heap.size, 10, none⟩ = some (.bool x.has) from HA_u11.out.cell 10)
  have q11 := cellX (W0 := u11.drew) (show u11.drew.cell? ⟨w.heap.size, 11, none⟩ = some (.int .i64 x.code) from HA_u11.out.cell 11)
  clear z0 z1 z2 z3 z4 z5 z6 z7 z8 z9 z10 z11
  refine wpAnyH_seg (by kernel_rfl) (fun _ _ _ h => h) [0, 1, 2, 4, 5] 3 _ _ _ (Ext.refl _) (by kernel_rfl) ?_
  simp only [opsAt, List.getElem?_toArray, List.getElem?_cons_zero, List.getElem?_cons_succ, List.cons_append, List.nil_append]
  repeat (go_big_quiet_step (fail))
  refine wpQuiet_nil ?_
  clear nA q0 q1 q2 q3 q4 q5 q6 q7 q8 q9 q10 q11
  have y : Below u11.heap.size u11 u11.drew := (Below.refl _ _).drew
  generalize u11.drew = u12 at *
  have HA_u12 : Hid (Blk u12 w.heap.size #[.int .i64 x.kind, .int .i64 x.frm, .int .i64 x.dst, .int .u64 x.num, .int .i64 x.node, .int .u64 x.life, .int .i64 x.n, .int .i64 x.op, .string x.key, .string x.val, .bool x.has, .int .i64 x.code] 27) := Blk.of HA_u11.out (y.block _ HA_u11.out.lt)
  have HY_u12 : Hid (Below w.heap.size w u12) := HY_u11.out.trans (y.mono HY_u11.out.size)
  have HO_u12 : Hid (Own u12 w.heap.size (.slice (some ⟨g6, 0, none⟩) L6.length c6) L6) := HO_u11.out.below y
  clear y HA_u11 HY_u11 HO_u11
  refine wpAnyH_callE (i := 3) (fuel := 2) 58 rfl (by kernel_rfl) rfl (Ext.refl _) (by kernel_rfl) (f := 20) (args := #[.slice (some ⟨g6, 0, none⟩) L6.length c6, .bool x.has]) (by kernel_rfl) (flagM_any (some ⟨g6, 0, none⟩) L6.length c6 L6 x.has _ HO_u12.out.src (by have := HB6.out; omega)) ?_
  rintro e u13 ⟨g7, c7, rfl, ho, y⟩
  refine ⟨_, rfl, y, ?_⟩
  obtain ⟨L7, hL⟩ : ∃ y, y = join L6 (enc (flagN x.has)) := ⟨_, rfl⟩
  rw [← hL] at ho ⊢
  have HL7 : Hid (L7 = join L6 (enc (flagN x.has))) := hL
  clear hL
  have HB7 : Hid (L7.length ≤ 700) := catB HL7.out HB6.out (flagB_len _)
  have HO_u13 : Hid (Own u13 w.heap.size (.slice (some ⟨g7, 0, none⟩) L7.length c7) L7) := ho.mono HY_u12.out.size
  clear ho
  clear HO_u12
  have HA_u13 : Hid (Blk u13 w.heap.size #[.int .i64 x.kind, .int .i64 x.frm, .int .i64 x.dst, .int .u64 x.num, .int .i64 x.node, .int .u64 x.life, .int .i64 x.n, .int .i64 x.op, .string x.key, .string x.val, .bool x.has, .int .i64 x.code] 27) := Blk.of HA_u12.out (y.block _ HA_u12.out.lt)
  have HY_u13 : Hid (Below w.heap.size w u13) := HY_u12.out.trans (y.mono HY_u12.out.size)
  clear y HA_u12 HY_u12
  simp only [Act.put, List.setIfInBounds_toArray, List.set_cons_succ, List.set_cons_zero]
  refine wpAnyH_callE (i := 6) (fuel := 1) 61 rfl (by kernel_rfl) rfl (Ext.refl _) (by kernel_rfl) (f := 18) (args := #[.slice (some ⟨g7, 0, none⟩) L7.length c7, .string x.val]) (by kernel_rfl) (textM_any (some ⟨g7, 0, none⟩) L7.length c7 L7 x.val _ HO_u13.out.src (by have := HVS.out; omega) (by have := HB7.out; omega)) ?_
  rintro e u14 ⟨g8, c8, rfl, ho, y⟩
  refine ⟨_, rfl, y, ?_⟩
  obtain ⟨L8, hL⟩ : ∃ y, y = join L7 (textB x.val) := ⟨_, rfl⟩
  rw [← hL] at ho ⊢
  have HL8 : Hid (L8 = join L7 (textB x.val)) := hL
  clear hL
  have HB8 : Hid (L8.length ≤ 800) := catB HL8.out HB7.out (textB_len HVS.out)
  have HO_u14 : Hid (Own u14 w.heap.size (.slice (some ⟨g8, 0, none⟩) L8.length c8) L8) := ho.mono HY_u13.out.size
  clear ho
  clear HO_u13
  have HA_u14 : Hid (Blk u14 w.heap.size #[.int .i64 x.kind, .int .i64 x.frm, .int .i64 x.dst, .int .u64 x.num, .int .i64 x.node, .int .u64 x.life, .int .i64 x.n, .int .i64 x.op, .string x.key, .string x.val, .bool x.has, .int .i64 x.code] 27) := Blk.of HA_u13.out (y.block _ HA_u13.out.lt)
  have HY_u14 : Hid (Below w.heap.size w u14) := HY_u13.out.trans (y.mono HY_u13.out.size)
  clear y HA_u13 HY_u13
  simp only [Act.put, List.setIfInBounds_toArray, List.set_cons_succ, List.set_cons_zero]
  haveI nA := cls_ext u14
  refine wpAnyH_seg (by kernel_rfl) (fun _ _ _ h => h) [7] 0 _ _ _ (Ext.refl _) (by kernel_rfl) ?_
  simp only [opsAt, List.getElem?_toArray, List.getElem?_cons_zero, List.getElem?_cons_succ, List.cons_append, List.nil_append]
  repeat (go_big_quiet_step (fail))
  refine wpQuiet_nil ?_
  clear nA
  refine wpAnyH_done (by kernel_rfl) (NoPanic.normal ?_) 0
  have z0 : u14.cell? ⟨w.heap.size, 0, none⟩ = some (.int .i64 x.kind) := HA_u14.out.cell 0
  have z1 : u14.cell? ⟨w.heap.size, 1, none⟩ = some (.int .i64 x.frm) := HA_u14.out.cell 1
  have z2 : u14.cell? ⟨w.heap.size, 2, none⟩ = some (.int .i64 x.dst) := HA_u14.out.cell 2
  have z3 : u14.cell? ⟨w.heap.size, 3, none⟩ = some (.int .u64 x.num) := HA_u14.out.cell 3
  have z4 : u14.cell? ⟨w.heap.size, 4, none⟩ = some (.int .i64 x.node) := HA_u14.out.cell 4
  have z5 : u14.cell? ⟨w.heap.size, 5, none⟩ = some (.int .u64 x.life) := HA_u14.out.cell 5
  have z6 : u14.cell? ⟨w.heap.size, 6, none⟩ = some (.int .i64 x.n) := HA_u14.out.cell 6
  have z7 : u14.cell? ⟨w.heap.size, 7, none⟩ = some (.int .i64 x.op) := HA_u14.out.cell 7
  have z8 : u14.cell? ⟨w.heap.size, 8, none⟩ = some (.string x.key) := HA_u14.out.cell 8
  have z9 : u14.cell? ⟨w.heap.size, 9, none⟩ = some (.string x.val) := HA_u14.out.cell 9
  have z10 : u14.cell? ⟨w.heap.size, 10, none⟩ = some (.bool x.has) := HA_u14.out.cell 10
  have z11 : u14.cell? ⟨w.heap.size, 11, none⟩ = some (.int .i64 x.code) := HA_u14.out.cell 11
  have HEQ : Hid (L8 = msgB x) := by show _ = _; rw [HM.out, HL8.out, HL7.out, HL6.out, HL5.out, HL4.out, HL3.out, HL2.out, HL1.out]
  go_wp2
  go_ret2
  refine ⟨.inl ⟨HR.out, g8, c8, ?_, ?_⟩, HY_u14.out⟩
  · rw [HEQ.out]; rfl
  · have := HO_u14.out
    rw [HEQ.out] at this
    exact this
set_option maxRecDepth 100000 in
set_option maxHeartbeats 8000000 in
theorem encode5_any (x : MsgQ) (w : World) (hr : RightM x) (hw : x.Wf) (hk : x.kind = 5) : Calls Try.prog 8 #[.agg #[.int .i64 x.kind, .int .i64 x.frm, .int .i64 x.dst, .int .u64 x.num, .int .i64 x.node, .int .u64 x.life, .int .i64 x.n, .int .i64 x.op, .string x.key, .string x.val, .bool x.has, .int .i64 x.code]] w (EncM x w) := by
  have HR : Hid (RightM x) := hr
  have hl : hasLifeB x.kind = true := decide_eq_true (by omega)
  have hn : hasNB x.kind = true := decide_eq_true (by omega)
  have hc : hasCodeB x.kind = false := decide_eq_false (by omega)
  have e3 : (x.kind == 3) = false := by simp [hk]
  have e4 : (x.kind == 4) = false := by simp [hk]
  have HM : Hid (msgB x = (join (join (join (join (join (join [] (intB x.kind)) (intB x.frm)) (intB x.dst)) (tidB x.num x.node)) (intB x.life)) (intB x.n))) := by
    show _ = _
    unfold msgB bodyB lifeB nB doB codeB didB join
    rw [hl, hn, hc]
    simp [hk, List.append_assoc]
  have HKB : Hid (0 ≤ x.kind ∧ x.kind < 9223372036854775808) := by have := hr.kind; show _ ∧ _; omega
  have HFB : Hid (0 ≤ x.frm ∧ x.frm < 9223372036854775808) := by have := hr.frm; show _ ∧ _; omega
  have HDB : Hid (0 ≤ x.dst ∧ x.dst < 9223372036854775808) := by have := hr.dst; show _ ∧ _; omega
  have HTB : Hid (0 ≤ x.num ∧ x.num < 18446744073709551616) := hw.2.2.2.1
  have HLB : Hid (0 ≤ x.life ∧ x.life < 18446744073709551616) := hw.2.2.2.2.2.1
  have HNB : Hid (0 ≤ x.n ∧ x.n < 9223372036854775808) := by have := hr.n; show _ ∧ _; omega
  have HCB : Hid (0 ≤ x.code ∧ x.code < 9223372036854775808) := by have := hr.code; show _ ∧ _; omega
  have HKV : Hid (x.key.size ≤ 9223372036854775807 ∧ x.val.size ≤ 9223372036854775807) := ⟨hw.2.2.2.2.2.2.2.2.1, hw.2.2.2.2.2.2.2.2.2.1⟩
  have HVS : Hid (x.val.size ≤ 48) := by show _ ≤ _; rcases hr.val with e | e <;> omega
  have HRM : Hid (rightM x = true) := (right_iff x).2 hr
  clear hr hw hk
  have HA : Hid (Blk (w.alloc (.cells #[.int .i64 x.kind, .int .i64 x.frm, .int .i64 x.dst, .int .u64 x.num, .int .i64 x.node, .int .u64 x.life, .int .i64 x.n, .int .i64 x.op, .string x.key, .string x.val, .bool x.has, .int .i64 x.code] 27)) w.heap.size #[.int .i64 x.kind, .int .i64 x.frm, .int .i64 x.dst, .int .u64 x.num, .int .i64 x.node, .int .u64 x.life, .int .i64 x.n, .int .i64 x.op, .string x.key, .string x.val, .bool x.has, .int .i64 x.code] 27) := Blk.new _ _ _
  have HY : Hid (Below w.heap.size w (w.alloc (.cells #[.int .i64 x.kind, .int .i64 x.frm, .int .i64 x.dst, .int .u64 x.num, .int .i64 x.node, .int .u64 x.life, .int .i64 x.n, .int .i64 x.op, .string x.key, .string x.val, .bool x.has, .int .i64 x.code] 27))) := (Below.refl _ _).alloc (Nat.le_refl _) _
  go_enter Try.func8, Try.ntmps8
  go_upto_region 1 with fail
  generalize w.alloc (.cells #[.int .i64 x.kind, .int .i64 x.frm, .int .i64 x.dst, .int .u64 x.num, .int .i64 x.node, .int .u64 x.life, .int .i64 x.n, .int .i64 x.op, .string x.key, .string x.val, .bool x.has, .int .i64 x.code] 27) = w0 at *
  have z0 : w0.cell? ⟨w.heap.size, 0, none⟩ = some (.int .i64 x.kind) := HA.out.cell 0
  have z1 : w0.cell? ⟨w.heap.size, 1, none⟩ = some (.int .i64 x.frm) := HA.out.cell 1
  have z2 : w0.cell? ⟨w.heap.size, 2, none⟩ = some (.int .i64 x.dst) := HA.out.cell 2
  have z3 : w0.cell? ⟨w.heap.size, 3, none⟩ = some (.int .u64 x.num) := HA.out.cell 3
  have z4 : w0.cell? ⟨w.heap.size, 4, none⟩ = some (.int .i64 x.node) := HA.out.cell 4
  have z5 : w0.cell? ⟨w.heap.size, 5, none⟩ = some (.int .u64 x.life) := HA.out.cell 5
  have z6 : w0.cell? ⟨w.heap.size, 6, none⟩ = some (.int .i64 x.n) := HA.out.cell 6
  have z7 : w0.cell? ⟨w.heap.size, 7, none⟩ = some (.int .i64 x.op) := HA.out.cell 7
  have z8 : w0.cell? ⟨w.heap.size, 8, none⟩ = some (.string x.key) := HA.out.cell 8
  have z9 : w0.cell? ⟨w.heap.size, 9, none⟩ = some (.string x.val) := HA.out.cell 9
  have z10 : w0.cell? ⟨w.heap.size, 10, none⟩ = some (.bool x.has) := HA.out.cell 10
  have z11 : w0.cell? ⟨w.heap.size, 11, none⟩ = some (.int .i64 x.code) := HA.out.cell 11
  go_wp2_with fail
  refine (right15_any x _ HKV.out.1 HKV.out.2).mono ?_
  rintro e u1 ⟨rfl, y⟩
  rw [HRM.out]
  have HA_u1 : Hid (Blk u1 w.heap.size #[.int .i64 x.kind, .int .i64 x.frm, .int .i64 x.dst, .int .u64 x.num, .int .i64 x.node, .int .u64 x.life, .int .i64 x.n, .int .i64 x.op, .string x.key, .string x.val, .bool x.has, .int .i64 x.code] 27) := Blk.of HA.out (y.block _ HA.out.lt)
  have HY_u1 : Hid (Below w.heap.size w u1) := HY.out.trans (y.mono HY.out.size)
  clear y HA HY
  clear z0 z1 z2 z3 z4 z5 z6 z7 z8 z9 z10 z11
  have z0 : u1.cell? ⟨w.heap.size, 0, none⟩ = some (.int .i64 x.kind) := HA_u1.out.cell 0
  have z1 : u1.cell? ⟨w.heap.size, 1, none⟩ = some (.int .i64 x.frm) := HA_u1.out.cell 1
  have z2 : u1.cell? ⟨w.heap.size, 2, none⟩ = some (.int .i64 x.dst) := HA_u1.out.cell 2
  have z3 : u1.cell? ⟨w.heap.size, 3, none⟩ = some (.int .u64 x.num) := HA_u1.out.cell 3
  have z4 : u1.cell? ⟨w.heap.size, 4, none⟩ = some (.int .i64 x.node) := HA_u1.out.cell 4
  have z5 : u1.cell? ⟨w.heap.size, 5, none⟩ = some (.int .u64 x.life) := HA_u1.out.cell 5
  have z6 : u1.cell? ⟨w.heap.size, 6, none⟩ = some (.int .i64 x.n) := HA_u1.out.cell 6
  have z7 : u1.cell? ⟨w.heap.size, 7, none⟩ = some (.int .i64 x.op) := HA_u1.out.cell 7
  have z8 : u1.cell? ⟨w.heap.size, 8, none⟩ = some (.string x.key) := HA_u1.out.cell 8
  have z9 : u1.cell? ⟨w.heap.size, 9, none⟩ = some (.string x.val) := HA_u1.out.cell 9
  have z10 : u1.cell? ⟨w.heap.size, 10, none⟩ = some (.bool x.has) := HA_u1.out.cell 10
  have z11 : u1.cell? ⟨w.heap.size, 11, none⟩ = some (.int .i64 x.code) := HA_u1.out.cell 11
  go_upto_region 3 with fail
  refine wp_region_ext (by kernel_rfl) ?_
  haveI nA := cls_ext u1.drew
  have q0 := cellX (W0 := u1.drew) (show u1.drew.cell? ⟨w.heap.size, 0, none⟩ = some (.int .i64 x.kind) from HA_u1.out.cell 0)
  have q1 := cellX (W0 := u1.drew) (show u1.drew.cell? ⟨w.heap.size, 1, none⟩ = some (.int .i64 x.frm) from HA_u1.out.cell 1)
  have q2 := cellX (W0 := u1.drew) (show u1.drew.cell? ⟨w.heap.size, 2, none⟩ = some (.int .i64 x.dst) from HA_u1.out.cell 2)
  have q3 := cellX (W0 := u1.drew) (show u1.drew.cell? ⟨w.heap.size, 3, none⟩ = some (.int .u64 x.num) from HA_u1.out.cell 3)
  have q4 := cellX (W0 := u1.drew) (show u1.drew.cell? ⟨w.heap.size, 4, none⟩ = some (.int .i64 x.node) from HA_u1.out.cell 4)
  have q5 := cellX (W0 := u1.drew) (show u1.drew.cell? ⟨w.heap.size, 5, none⟩ = some (.int .u64 x.life) from HA_u1.out.cell 5)
  have q6 := cellX (W0 := u1.drew) (show u1.drew.cell? ⟨w.heap.size, 6, none⟩ = some (.int .i64 x.n) from HA_u1.out.cell 6)
  have q7 := cellX (W0 := u1.drew) (show u1.drew.cell? ⟨w.heap.size, 7, none⟩ = some (.int .i64 x.op) from HA_u1.out.cell 7)
  have q8 := cellX (W0 := u1.drew) (show u1.drew.cell? ⟨w.heap.size, 8, none⟩ = some (.string x.key) from HA_u1.out.cell 8)
  have q9 := cellX (W0 := u1.drew) (show u1.drew.cell? ⟨w.heap.size, 9, none⟩ = some (.string x.val) from HA_u1.out.cell 9)
  have q10 := cellX (W0 := u1.drew) (show u1.drew.cell? ⟨w.heap.size, 10, none⟩ = some (.bool x.has) from HA_u1.out.cell 10)
  have q11 := cellX (W0 := u1.drew) (show u1.drew.cell? ⟨w.heap.size, 11, none⟩ = some (.int .i64 x.code) from HA_u1.out.cell 11)
  clear z0 z1 z2 z3 z4 z5 z6 z7 z8 z9 z10 z11
  refine wpAnyH_seg (by kernel_rfl) (fun _ _ _ h => h) [0, 1, 3, 4, 6, 7] 4 _ _ _ (Ext.refl _) (by kernel_rfl) ?_
  simp only [opsAt, List.getElem?_toArray, List.getElem?_cons_zero, List.getElem?_cons_succ, List.cons_append, List.nil_append]
  repeat (go_big_quiet_step (fail))
  refine wpQuiet_nil ?_
  clear nA q0 q1 q2 q3 q4 q5 q6 q7 q8 q9 q10 q11
  have y : Below u1.heap.size u1 u1.drew := (Below.refl _ _).drew
  generalize u1.drew = u2 at *
  have HA_u2 : Hid (Blk u2 w.heap.size #[.int .i64 x.kind, .int .i64 x.frm, .int .i64 x.dst, .int .u64 x.num, .int .i64 x.node, .int .u64 x.life, .int .i64 x.n, .int .i64 x.op, .string x.key, .string x.val, .bool x.has, .int .i64 x.code] 27) := Blk.of HA_u1.out (y.block _ HA_u1.out.lt)
  have HY_u2 : Hid (Below w.heap.size w u2) := HY_u1.out.trans (y.mono HY_u1.out.size)
  clear y HA_u1 HY_u1
  refine wpAnyH_callE (i := 2) (fuel := 3) 10 rfl (by kernel_rfl) rfl (Ext.refl _) (by kernel_rfl) (f := 13) (args := #[.slice none 0 0, .int .i64 x.kind]) (by kernel_rfl) (smallM_any none 0 0 [] x.kind _ (Src.nil _) HKB.out (by simp)) ?_
  rintro e u3 ⟨g1, c1, rfl, ho, y⟩
  refine ⟨_, rfl, y, ?_⟩
  obtain ⟨L1, hL⟩ : ∃ y, y = join [] (intB x.kind) := ⟨_, rfl⟩
  rw [← hL] at ho ⊢
  have HL1 : Hid (L1 = join [] (intB x.kind)) := hL
  clear hL
  have HB1 : Hid (L1.length ≤ 100) := catB HL1.out (Nat.zero_le _) (intB_len _)
  have HO_u3 : Hid (Own u3 w.heap.size (.slice (some ⟨g1, 0, none⟩) L1.length c1) L1) := ho.mono HY_u2.out.size
  clear ho
  have HA_u3 : Hid (Blk u3 w.heap.size #[.int .i64 x.kind, .int .i64 x.frm, .int .i64 x.dst, .int .u64 x.num, .int .i64 x.node, .int .u64 x.life, .int .i64 x.n, .int .i64 x.op, .string x.key, .string x.val, .bool x.has, .int .i64 x.code] 27) := Blk.of HA_u2.out (y.block _ HA_u2.out.lt)
  have HY_u3 : Hid (Below w.heap.size w u3) := HY_u2.out.trans (y.mono HY_u2.out.size)
  clear y HA_u2 HY_u2
  simp only [Act.put, List.setIfInBounds_toArray, List.set_cons_succ, List.set_cons_zero]
  refine wpAnyH_callE (i := 5) (fuel := 2) 13 rfl (by kernel_rfl) rfl (Ext.refl _) (by kernel_rfl) (f := 13) (args := #[.slice (some ⟨g1, 0, none⟩) L1.length c1, .int .i64 x.frm]) (by kernel_rfl) (smallM_any (some ⟨g1, 0, none⟩) L1.length c1 L1 x.frm _ HO_u3.out.src HFB.out (by have := HB1.out; omega)) ?_
  rintro e u4 ⟨g2, c2, rfl, ho, y⟩
  refine ⟨_, rfl, y, ?_⟩
  obtain ⟨L2, hL⟩ : ∃ y, y = join L1 (intB x.frm) := ⟨_, rfl⟩
  rw [← hL] at ho ⊢
  have HL2 : Hid (L2 = join L1 (intB x.frm)) := hL
  clear hL
  have HB2 : Hid (L2.length ≤ 200) := catB HL2.out HB1.out (intB_len _)
  have HO_u4 : Hid (Own u4 w.heap.size (.slice (some ⟨g2, 0, none⟩) L2.length c2) L2) := ho.mono HY_u3.out.size
  clear ho
  clear HO_u3
  have HA_u4 : Hid (Blk u4 w.heap.size #[.int .i64 x.kind, .int .i64 x.frm, .int .i64 x.dst, .int .u64 x.num, .int .i64 x.node, .int .u64 x.life, .int .i64 x.n, .int .i64 x.op, .string x.key, .string x.val, .bool x.has, .int .i64 x.code] 27) := Blk.of HA_u3.out (y.block _ HA_u3.out.lt)
  have HY_u4 : Hid (Below w.heap.size w u4) := HY_u3.out.trans (y.mono HY_u3.out.size)
  clear y HA_u3 HY_u3
  simp only [Act.put, List.setIfInBounds_toArray, List.set_cons_succ, List.set_cons_zero]
  refine wpAnyH_callE (i := 8) (fuel := 1) 16 rfl (by kernel_rfl) rfl (Ext.refl _) (by kernel_rfl) (f := 13) (args := #[.slice (some ⟨g2, 0, none⟩) L2.length c2, .int .i64 x.dst]) (by kernel_rfl) (smallM_any (some ⟨g2, 0, none⟩) L2.length c2 L2 x.dst _ HO_u4.out.src HDB.out (by have := HB2.out; omega)) ?_
  rintro e u5 ⟨g3, c3, rfl, ho, y⟩
  refine ⟨_, rfl, y, ?_⟩
  obtain ⟨L3, hL⟩ : ∃ y, y = join L2 (intB x.dst) := ⟨_, rfl⟩
  rw [← hL] at ho ⊢
  have HL3 : Hid (L3 = join L2 (intB x.dst)) := hL
  clear hL
  have HB3 : Hid (L3.length ≤ 300) := catB HL3.out HB2.out (intB_len _)
  have HO_u5 : Hid (Own u5 w.heap.size (.slice (some ⟨g3, 0, none⟩) L3.length c3) L3) := ho.mono HY_u4.out.size
  clear ho
  clear HO_u4
  have HA_u5 : Hid (Blk u5 w.heap.size #[.int .i64 x.kind, .int .i64 x.frm, .int .i64 x.dst, .int .u64 x.num, .int .i64 x.node, .int .u64 x.life, .int .i64 x.n, .int .i64 x.op, .string x.key, .string x.val, .bool x.has, .int .i64 x.code] 27) := Blk.of HA_u4.out (y.block _ HA_u4.out.lt)
  have HY_u5 : Hid (Below w.heap.size w u5) := HY_u4.out.trans (y.mono HY_u4.out.size)
  clear y HA_u4 HY_u4
  simp only [Act.put, List.setIfInBounds_toArray, List.set_cons_succ, List.set_cons_zero]
  haveI nA := cls_ext u5
  refine wpAnyH_seg (by kernel_rfl) (fun _ _ _ h => h) [9] 0 _ _ _ (Ext.refl _) (by kernel_rfl) ?_
  simp only [opsAt, List.getElem?_toArray, List.getElem?_cons_zero, List.getElem?_cons_succ, List.cons_append, List.nil_append]
  repeat (go_big_quiet_step (fail))
  refine wpQuiet_nil ?_
  clear nA
  refine wpAnyH_done (by kernel_rfl) (NoPanic.normal ?_) 0
  have z0 : u5.cell? ⟨w.heap.size, 0, none⟩ = some (.int .i64 x.kind) := HA_u5.out.cell 0
  have z1 : u5.cell? ⟨w.heap.size, 1, none⟩ = some (.int .i64 x.frm) := HA_u5.out.cell 1
  have z2 : u5.cell? ⟨w.heap.size, 2, none⟩ = some (.int .i64 x.dst) := HA_u5.out.cell 2
  have z3 : u5.cell? ⟨w.heap.size, 3, none⟩ = some (.int .u64 x.num) := HA_u5.out.cell 3
  have z4 : u5.cell? ⟨w.heap.size, 4, none⟩ = some (.int .i64 x.node) := HA_u5.out.cell 4
  have z5 : u5.cell? ⟨w.heap.size, 5, none⟩ = some (.int .u64 x.life) := HA_u5.out.cell 5
  have z6 : u5.cell? ⟨w.heap.size, 6, none⟩ = some (.int .i64 x.n) := HA_u5.out.cell 6
  have z7 : u5.cell? ⟨w.heap.size, 7, none⟩ = some (.int .i64 x.op) := HA_u5.out.cell 7
  have z8 : u5.cell? ⟨w.heap.size, 8, none⟩ = some (.string x.key) := HA_u5.out.cell 8
  have z9 : u5.cell? ⟨w.heap.size, 9, none⟩ = some (.string x.val) := HA_u5.out.cell 9
  have z10 : u5.cell? ⟨w.heap.size, 10, none⟩ = some (.bool x.has) := HA_u5.out.cell 10
  have z11 : u5.cell? ⟨w.heap.size, 11, none⟩ = some (.int .i64 x.code) := HA_u5.out.cell 11
  go_wp2_with fail
  refine (tidM_any (some ⟨g3, 0, none⟩) L3.length c3 L3 x.num x.node _ HO_u5.out.src HTB.out (by have := HB3.out; omega)).mono ?_
  rintro e u6 ⟨g4, c4, rfl, ho, y⟩
  obtain ⟨L4, hL⟩ : ∃ y, y = join L3 (tidB x.num x.node) := ⟨_, rfl⟩
  rw [← hL] at ho ⊢
  have HL4 : Hid (L4 = join L3 (tidB x.num x.node)) := hL
  clear hL
  have HB4 : Hid (L4.length ≤ 400) := catB HL4.out HB3.out (tidB_len _ _)
  have HO_u6 : Hid (Own u6 w.heap.size (.slice (some ⟨g4, 0, none⟩) L4.length c4) L4) := ho.mono HY_u5.out.size
  clear ho
  clear HO_u5
  have HA_u6 : Hid (Blk u6 w.heap.size #[.int .i64 x.kind, .int .i64 x.frm, .int .i64 x.dst, .int .u64 x.num, .int .i64 x.node, .int .u64 x.life, .int .i64 x.n, .int .i64 x.op, .string x.key, .string x.val, .bool x.has, .int .i64 x.code] 27) := Blk.of HA_u5.out (y.block _ HA_u5.out.lt)
  have HY_u6 : Hid (Below w.heap.size w u6) := HY_u5.out.trans (y.mono HY_u5.out.size)
  clear y HA_u5 HY_u5
  clear z0 z1 z2 z3 z4 z5 z6 z7 z8 z9 z10 z11
  have z0 : u6.cell? ⟨w.heap.size, 0, none⟩ = some (.int .i64 x.kind) := HA_u6.out.cell 0
  have z1 : u6.cell? ⟨w.heap.size, 1, none⟩ = some (.int .i64 x.frm) := HA_u6.out.cell 1
  have z2 : u6.cell? ⟨w.heap.size, 2, none⟩ = some (.int .i64 x.dst) := HA_u6.out.cell 2
  have z3 : u6.cell? ⟨w.heap.size, 3, none⟩ = some (.int .u64 x.num) := HA_u6.out.cell 3
  have z4 : u6.cell? ⟨w.heap.size, 4, none⟩ = some (.int .i64 x.node) := HA_u6.out.cell 4
  have z5 : u6.cell? ⟨w.heap.size, 5, none⟩ = some (.int .u64 x.life) := HA_u6.out.cell 5
  have z6 : u6.cell? ⟨w.heap.size, 6, none⟩ = some (.int .i64 x.n) := HA_u6.out.cell 6
  have z7 : u6.cell? ⟨w.heap.size, 7, none⟩ = some (.int .i64 x.op) := HA_u6.out.cell 7
  have z8 : u6.cell? ⟨w.heap.size, 8, none⟩ = some (.string x.key) := HA_u6.out.cell 8
  have z9 : u6.cell? ⟨w.heap.size, 9, none⟩ = some (.string x.val) := HA_u6.out.cell 9
  have z10 : u6.cell? ⟨w.heap.size, 10, none⟩ = some (.bool x.has) := HA_u6.out.cell 10
  have z11 : u6.cell? ⟨w.heap.size, 11, none⟩ = some (.int .i64 x.code) := HA_u6.out.cell 11
  go_wp2_with fail
  refine (hasLife_any x _).mono ?_
  rintro e u7 ⟨rfl, y⟩
  rw [hl]
  have HA_u7 : Hid (Blk u7 w.heap.size #[.int .i64 x.kind, .int .i64 x.frm, .int .i64 x.dst, .int .u64 x.num, .int .i64 x.node, .int .u64 x.life, .int .i64 x.n, .int .i64 x.op, .string x.key, .string x.val, .bool x.has, .int .i64 x.code] 27) := Blk.of HA_u6.out (y.block _ HA_u6.out.lt)
  have HY_u7 : Hid (Below w.heap.size w u7) := HY_u6.out.trans (y.mono HY_u6.out.size)
  have HO_u7 : Hid (Own u7 w.heap.size (.slice (some ⟨g4, 0, none⟩) L4.length c4) L4) := HO_u6.out.below y
  clear y HA_u6 HY_u6 HO_u6
  clear z0 z1 z2 z3 z4 z5 z6 z7 z8 z9 z10 z11
  have z0 : u7.cell? ⟨w.heap.size, 0, none⟩ = some (.int .i64 x.kind) := HA_u7.out.cell 0
  have z1 : u7.cell? ⟨w.heap.size, 1, none⟩ = some (.int .i64 x.frm) := HA_u7.out.cell 1
  have z2 : u7.cell? ⟨w.heap.size, 2, none⟩ = some (.int .i64 x.dst) := HA_u7.out.cell 2
  have z3 : u7.cell? ⟨w.heap.size, 3, none⟩ = some (.int .u64 x.num) := HA_u7.out.cell 3
  have z4 : u7.cell? ⟨w.heap.size, 4, none⟩ = some (.int .i64 x.node) := HA_u7.out.cell 4
  have z5 : u7.cell? ⟨w.heap.size, 5, none⟩ = some (.int .u64 x.life) := HA_u7.out.cell 5
  have z6 : u7.cell? ⟨w.heap.size, 6, none⟩ = some (.int .i64 x.n) := HA_u7.out.cell 6
  have z7 : u7.cell? ⟨w.heap.size, 7, none⟩ = some (.int .i64 x.op) := HA_u7.out.cell 7
  have z8 : u7.cell? ⟨w.heap.size, 8, none⟩ = some (.string x.key) := HA_u7.out.cell 8
  have z9 : u7.cell? ⟨w.heap.size, 9, none⟩ = some (.string x.val) := HA_u7.out.cell 9
  have z10 : u7.cell? ⟨w.heap.size, 10, none⟩ = some (.bool x.has) := HA_u7.out.cell 10
  have z11 : u7.cell? ⟨w.heap.size, 11, none⟩ = some (.int .i64 x.code) := HA_u7.out.cell 11
  go_wp2_with fail
  refine (putM_any (some ⟨g4, 0, none⟩) L4.length c4 L4 x.life _ HO_u7.out.src HLB.out (by have := HB4.out; omega)).mono ?_
  rintro e u8 ⟨g5, c5, rfl, ho, y⟩
  obtain ⟨L5, hL⟩ : ∃ y, y = join L4 (intB x.life) := ⟨_, rfl⟩
  rw [← hL] at ho ⊢
  have HL5 : Hid (L5 = join L4 (intB x.life)) := hL
  clear hL
  have HB5 : Hid (L5.length ≤ 500) := catB HL5.out HB4.out (intB_len _)
  have HO_u8 : Hid (Own u8 w.heap.size (.slice (some ⟨g5, 0, none⟩) L5.length c5) L5) := ho.mono HY_u7.out.size
  clear ho
  clear HO_u7
  have HA_u8 : Hid (Blk u8 w.heap.size #[.int .i64 x.kind, .int .i64 x.frm, .int .i64 x.dst, .int .u64 x.num, .int .i64 x.node, .int .u64 x.life, .int .i64 x.n, .int .i64 x.op, .string x.key, .string x.val, .bool x.has, .int .i64 x.code] 27) := Blk.of HA_u7.out (y.block _ HA_u7.out.lt)
  have HY_u8 : Hid (Below w.heap.size w u8) := HY_u7.out.trans (y.mono HY_u7.out.size)
  clear y HA_u7 HY_u7
  clear z0 z1 z2 z3 z4 z5 z6 z7 z8 z9 z10 z11
  have z0 : u8.cell? ⟨w.heap.size, 0, none⟩ = some (.int .i64 x.kind) := HA_u8.out.cell 0
  have z1 : u8.cell? ⟨w.heap.size, 1, none⟩ = some (.int .i64 x.frm) := HA_u8.out.cell 1
  have z2 : u8.cell? ⟨w.heap.size, 2, none⟩ = some (.int .i64 x.dst) := HA_u8.out.cell 2
  have z3 : u8.cell? ⟨w.heap.size, 3, none⟩ = some (.int .u64 x.num) := HA_u8.out.cell 3
  have z4 : u8.cell? ⟨w.heap.size, 4, none⟩ = some (.int .i64 x.node) := HA_u8.out.cell 4
  have z5 : u8.cell? ⟨w.heap.size, 5, none⟩ = some (.int .u64 x.life) := HA_u8.out.cell 5
  have z6 : u8.cell? ⟨w.heap.size, 6, none⟩ = some (.int .i64 x.n) := HA_u8.out.cell 6
  have z7 : u8.cell? ⟨w.heap.size, 7, none⟩ = some (.int .i64 x.op) := HA_u8.out.cell 7
  have z8 : u8.cell? ⟨w.heap.size, 8, none⟩ = some (.string x.key) := HA_u8.out.cell 8
  have z9 : u8.cell? ⟨w.heap.size, 9, none⟩ = some (.string x.val) := HA_u8.out.cell 9
  have z10 : u8.cell? ⟨w.heap.size, 10, none⟩ = some (.bool x.has) := HA_u8.out.cell 10
  have z11 : u8.cell? ⟨w.heap.size, 11, none⟩ = some (.int .i64 x.code) := HA_u8.out.cell 11
  go_wp2_with fail
  refine (hasN_any x _).mono ?_
  rintro e u9 ⟨rfl, y⟩
  rw [hn]
  have HA_u9 : Hid (Blk u9 w.heap.size #[.int .i64 x.kind, .int .i64 x.frm, .int .i64 x.dst, .int .u64 x.num, .int .i64 x.node, .int .u64 x.life, .int .i64 x.n, .int .i64 x.op, .string x.key, .string x.val, .bool x.has, .int .i64 x.code] 27) := Blk.of HA_u8.out (y.block _ HA_u8.out.lt)
  have HY_u9 : Hid (Below w.heap.size w u9) := HY_u8.out.trans (y.mono HY_u8.out.size)
  have HO_u9 : Hid (Own u9 w.heap.size (.slice (some ⟨g5, 0, none⟩) L5.length c5) L5) := HO_u8.out.below y
  clear y HA_u8 HY_u8 HO_u8
  clear z0 z1 z2 z3 z4 z5 z6 z7 z8 z9 z10 z11
  have z0 : u9.cell? ⟨w.heap.size, 0, none⟩ = some (.int .i64 x.kind) := HA_u9.out.cell 0
  have z1 : u9.cell? ⟨w.heap.size, 1, none⟩ = some (.int .i64 x.frm) := HA_u9.out.cell 1
  have z2 : u9.cell? ⟨w.heap.size, 2, none⟩ = some (.int .i64 x.dst) := HA_u9.out.cell 2
  have z3 : u9.cell? ⟨w.heap.size, 3, none⟩ = some (.int .u64 x.num) := HA_u9.out.cell 3
  have z4 : u9.cell? ⟨w.heap.size, 4, none⟩ = some (.int .i64 x.node) := HA_u9.out.cell 4
  have z5 : u9.cell? ⟨w.heap.size, 5, none⟩ = some (.int .u64 x.life) := HA_u9.out.cell 5
  have z6 : u9.cell? ⟨w.heap.size, 6, none⟩ = some (.int .i64 x.n) := HA_u9.out.cell 6
  have z7 : u9.cell? ⟨w.heap.size, 7, none⟩ = some (.int .i64 x.op) := HA_u9.out.cell 7
  have z8 : u9.cell? ⟨w.heap.size, 8, none⟩ = some (.string x.key) := HA_u9.out.cell 8
  have z9 : u9.cell? ⟨w.heap.size, 9, none⟩ = some (.string x.val) := HA_u9.out.cell 9
  have z10 : u9.cell? ⟨w.heap.size, 10, none⟩ = some (.bool x.has) := HA_u9.out.cell 10
  have z11 : u9.cell? ⟨w.heap.size, 11, none⟩ = some (.int .i64 x.code) := HA_u9.out.cell 11
  go_wp2_with fail
  refine (smallM_any (some ⟨g5, 0, none⟩) L5.length c5 L5 x.n _ HO_u9.out.src HNB.out (by have := HB5.out; omega)).mono ?_
  rintro e u10 ⟨g6, c6, rfl, ho, y⟩
  obtain ⟨L6, hL⟩ : ∃ y, y = join L5 (intB x.n) := ⟨_, rfl⟩
  rw [← hL] at ho ⊢
  have HL6 : Hid (L6 = join L5 (intB x.n)) := hL
  clear hL
  have HB6 : Hid (L6.length ≤ 600) := catB HL6.out HB5.out (intB_len _)
  have HO_u10 : Hid (Own u10 w.heap.size (.slice (some ⟨g6, 0, none⟩) L6.length c6) L6) := ho.mono HY_u9.out.size
  clear ho
  clear HO_u9
  have HA_u10 : Hid (Blk u10 w.heap.size #[.int .i64 x.kind, .int .i64 x.frm, .int .i64 x.dst, .int .u64 x.num, .int .i64 x.node, .int .u64 x.life, .int .i64 x.n, .int .i64 x.op, .string x.key, .string x.val, .bool x.has, .int .i64 x.code] 27) := Blk.of HA_u9.out (y.block _ HA_u9.out.lt)
  have HY_u10 : Hid (Below w.heap.size w u10) := HY_u9.out.trans (y.mono HY_u9.out.size)
  clear y HA_u9 HY_u9
  clear z0 z1 z2 z3 z4 z5 z6 z7 z8 z9 z10 z11
  have z0 : u10.cell? ⟨w.heap.size, 0, none⟩ = some (.int .i64 x.kind) := HA_u10.out.cell 0
  have z1 : u10.cell? ⟨w.heap.size, 1, none⟩ = some (.int .i64 x.frm) := HA_u10.out.cell 1
  have z2 : u10.cell? ⟨w.heap.size, 2, none⟩ = some (.int .i64 x.dst) := HA_u10.out.cell 2
  have z3 : u10.cell? ⟨w.heap.size, 3, none⟩ = some (.int .u64 x.num) := HA_u10.out.cell 3
  have z4 : u10.cell? ⟨w.heap.size, 4, none⟩ = some (.int .i64 x.node) := HA_u10.out.cell 4
  have z5 : u10.cell? ⟨w.heap.size, 5, none⟩ = some (.int .u64 x.life) := HA_u10.out.cell 5
  have z6 : u10.cell? ⟨w.heap.size, 6, none⟩ = some (.int .i64 x.n) := HA_u10.out.cell 6
  have z7 : u10.cell? ⟨w.heap.size, 7, none⟩ = some (.int .i64 x.op) := HA_u10.out.cell 7
  have z8 : u10.cell? ⟨w.heap.size, 8, none⟩ = some (.string x.key) := HA_u10.out.cell 8
  have z9 : u10.cell? ⟨w.heap.size, 9, none⟩ = some (.string x.val) := HA_u10.out.cell 9
  have z10 : u10.cell? ⟨w.heap.size, 10, none⟩ = some (.bool x.has) := HA_u10.out.cell 10
  have z11 : u10.cell? ⟨w.heap.size, 11, none⟩ = some (.int .i64 x.code) := HA_u10.out.cell 11
  go_wp2_with fail
  refine (hasCode_any x _).mono ?_
  rintro e u11 ⟨rfl, y⟩
  rw [hc]
  have HA_u11 : Hid (Blk u11 w.heap.size #[.int .i64 x.kind, .int .i64 x.frm, .int .i64 x.dst, .int .u64 x.num, .int .i64 x.node, .int .u64 x.life, .int .i64 x.n, .int .i64 x.op, .string x.key, .string x.val, .bool x.has, .int .i64 x.code] 27) := Blk.of HA_u10.out (y.block _ HA_u10.out.lt)
  have HY_u11 : Hid (Below w.heap.size w u11) := HY_u10.out.trans (y.mono HY_u10.out.size)
  have HO_u11 : Hid (Own u11 w.heap.size (.slice (some ⟨g6, 0, none⟩) L6.length c6) L6) := HO_u10.out.below y
  clear y HA_u10 HY_u10 HO_u10
  clear z0 z1 z2 z3 z4 z5 z6 z7 z8 z9 z10 z11
  have z0 : u11.cell? ⟨w.heap.size, 0, none⟩ = some (.int .i64 x.kind) := HA_u11.out.cell 0
  have z1 : u11.cell? ⟨w.heap.size, 1, none⟩ = some (.int .i64 x.frm) := HA_u11.out.cell 1
  have z2 : u11.cell? ⟨w.heap.size, 2, none⟩ = some (.int .i64 x.dst) := HA_u11.out.cell 2
  have z3 : u11.cell? ⟨w.heap.size, 3, none⟩ = some (.int .u64 x.num) := HA_u11.out.cell 3
  have z4 : u11.cell? ⟨w.heap.size, 4, none⟩ = some (.int .i64 x.node) := HA_u11.out.cell 4
  have z5 : u11.cell? ⟨w.heap.size, 5, none⟩ = some (.int .u64 x.life) := HA_u11.out.cell 5
  have z6 : u11.cell? ⟨w.heap.size, 6, none⟩ = some (.int .i64 x.n) := HA_u11.out.cell 6
  have z7 : u11.cell? ⟨w.heap.size, 7, none⟩ = some (.int .i64 x.op) := HA_u11.out.cell 7
  have z8 : u11.cell? ⟨w.heap.size, 8, none⟩ = some (.string x.key) := HA_u11.out.cell 8
  have z9 : u11.cell? ⟨w.heap.size, 9, none⟩ = some (.string x.val) := HA_u11.out.cell 9
  have z10 : u11.cell? ⟨w.heap.size, 10, none⟩ = some (.bool x.has) := HA_u11.out.cell 10
  have z11 : u11.cell? ⟨w.heap.size, 11, none⟩ = some (.int .i64 x.code) := HA_u11.out.cell 11
  have HEQ : Hid (L6 = msgB x) := by show _ = _; rw [HM.out, HL6.out, HL5.out, HL4.out, HL3.out, HL2.out, HL1.out]
  go_wp2
  go_ret2
  refine ⟨.inl ⟨HR.out, g6, c6, ?_, ?_⟩, HY_u11.out⟩
  · rw [HEQ.out]; rfl
  · have := HO_u11.out
    rw [HEQ.out] at this
    exact this
set_option maxRecDepth 100000 in
set_option maxHeartbeats 8000000 in
theorem encode6_any (x : MsgQ) (w : World) (hr : RightM x) (hw : x.Wf) (hk : x.kind = 6) : Calls Try.prog 8 #[.agg #[.int .i64 x.kind, .int .i64 x.frm, .int .i64 x.dst, .int .u64 x.num, .int .i64 x.node, .int .u64 x.life, .int .i64 x.n, .int .i64 x.op, .string x.key, .string x.val, .bool x.has, .int .i64 x.code]] w (EncM x w) := by
  have HR : Hid (RightM x) := hr
  have hl : hasLifeB x.kind = false := decide_eq_false (by omega)
  have hn : hasNB x.kind = false := decide_eq_false (by omega)
  have hc : hasCodeB x.kind = true := decide_eq_true (by omega)
  have e3 : (x.kind == 3) = false := by simp [hk]
  have e4 : (x.kind == 4) = false := by simp [hk]
  have HM : Hid (msgB x = (join (join (join (join (join [] (intB x.kind)) (intB x.frm)) (intB x.dst)) (tidB x.num x.node)) (intB x.code))) := by
    show _ = _
    unfold msgB bodyB lifeB nB doB codeB didB join
    rw [hl, hn, hc]
    simp [hk, List.append_assoc]
  have HKB : Hid (0 ≤ x.kind ∧ x.kind < 9223372036854775808) := by have := hr.kind; show _ ∧ _; omega
  have HFB : Hid (0 ≤ x.frm ∧ x.frm < 9223372036854775808) := by have := hr.frm; show _ ∧ _; omega
  have HDB : Hid (0 ≤ x.dst ∧ x.dst < 9223372036854775808) := by have := hr.dst; show _ ∧ _; omega
  have HTB : Hid (0 ≤ x.num ∧ x.num < 18446744073709551616) := hw.2.2.2.1
  have HLB : Hid (0 ≤ x.life ∧ x.life < 18446744073709551616) := hw.2.2.2.2.2.1
  have HNB : Hid (0 ≤ x.n ∧ x.n < 9223372036854775808) := by have := hr.n; show _ ∧ _; omega
  have HCB : Hid (0 ≤ x.code ∧ x.code < 9223372036854775808) := by have := hr.code; show _ ∧ _; omega
  have HKV : Hid (x.key.size ≤ 9223372036854775807 ∧ x.val.size ≤ 9223372036854775807) := ⟨hw.2.2.2.2.2.2.2.2.1, hw.2.2.2.2.2.2.2.2.2.1⟩
  have HVS : Hid (x.val.size ≤ 48) := by show _ ≤ _; rcases hr.val with e | e <;> omega
  have HRM : Hid (rightM x = true) := (right_iff x).2 hr
  clear hr hw hk
  have HA : Hid (Blk (w.alloc (.cells #[.int .i64 x.kind, .int .i64 x.frm, .int .i64 x.dst, .int .u64 x.num, .int .i64 x.node, .int .u64 x.life, .int .i64 x.n, .int .i64 x.op, .string x.key, .string x.val, .bool x.has, .int .i64 x.code] 27)) w.heap.size #[.int .i64 x.kind, .int .i64 x.frm, .int .i64 x.dst, .int .u64 x.num, .int .i64 x.node, .int .u64 x.life, .int .i64 x.n, .int .i64 x.op, .string x.key, .string x.val, .bool x.has, .int .i64 x.code] 27) := Blk.new _ _ _
  have HY : Hid (Below w.heap.size w (w.alloc (.cells #[.int .i64 x.kind, .int .i64 x.frm, .int .i64 x.dst, .int .u64 x.num, .int .i64 x.node, .int .u64 x.life, .int .i64 x.n, .int .i64 x.op, .string x.key, .string x.val, .bool x.has, .int .i64 x.code] 27))) := (Below.refl _ _).alloc (Nat.le_refl _) _
  go_enter Try.func8, Try.ntmps8
  go_upto_region 1 with fail
  generalize w.alloc (.cells #[.int .i64 x.kind, .int .i64 x.frm, .int .i64 x.dst, .int .u64 x.num, .int .i64 x.node, .int .u64 x.life, .int .i64 x.n, .int .i64 x.op, .string x.key, .string x.val, .bool x.has, .int .i64 x.code] 27) = w0 at *
  have z0 : w0.cell? ⟨w.heap.size, 0, none⟩ = some (.int .i64 x.kind) := HA.out.cell 0
  have z1 : w0.cell? ⟨w.heap.size, 1, none⟩ = some (.int .i64 x.frm) := HA.out.cell 1
  have z2 : w0.cell? ⟨w.heap.size, 2, none⟩ = some (.int .i64 x.dst) := HA.out.cell 2
  have z3 : w0.cell? ⟨w.heap.size, 3, none⟩ = some (.int .u64 x.num) := HA.out.cell 3
  have z4 : w0.cell? ⟨w.heap.size, 4, none⟩ = some (.int .i64 x.node) := HA.out.cell 4
  have z5 : w0.cell? ⟨w.heap.size, 5, none⟩ = some (.int .u64 x.life) := HA.out.cell 5
  have z6 : w0.cell? ⟨w.heap.size, 6, none⟩ = some (.int .i64 x.n) := HA.out.cell 6
  have z7 : w0.cell? ⟨w.heap.size, 7, none⟩ = some (.int .i64 x.op) := HA.out.cell 7
  have z8 : w0.cell? ⟨w.heap.size, 8, none⟩ = some (.string x.key) := HA.out.cell 8
  have z9 : w0.cell? ⟨w.heap.size, 9, none⟩ = some (.string x.val) := HA.out.cell 9
  have z10 : w0.cell? ⟨w.heap.size, 10, none⟩ = some (.bool x.has) := HA.out.cell 10
  have z11 : w0.cell? ⟨w.heap.size, 11, none⟩ = some (.int .i64 x.code) := HA.out.cell 11
  go_wp2_with fail
  refine (right15_any x _ HKV.out.1 HKV.out.2).mono ?_
  rintro e u1 ⟨rfl, y⟩
  rw [HRM.out]
  have HA_u1 : Hid (Blk u1 w.heap.size #[.int .i64 x.kind, .int .i64 x.frm, .int .i64 x.dst, .int .u64 x.num, .int .i64 x.node, .int .u64 x.life, .int .i64 x.n, .int .i64 x.op, .string x.key, .string x.val, .bool x.has, .int .i64 x.code] 27) := Blk.of HA.out (y.block _ HA.out.lt)
  have HY_u1 : Hid (Below w.heap.size w u1) := HY.out.trans (y.mono HY.out.size)
  clear y HA HY
  clear z0 z1 z2 z3 z4 z5 z6 z7 z8 z9 z10 z11
  have z0 : u1.cell? ⟨w.heap.size, 0, none⟩ = some (.int .i64 x.kind) := HA_u1.out.cell 0
  have z1 : u1.cell? ⟨w.heap.size, 1, none⟩ = some (.int .i64 x.frm) := HA_u1.out.cell 1
  have z2 : u1.cell? ⟨w.heap.size, 2, none⟩ = some (.int .i64 x.dst) := HA_u1.out.cell 2
  have z3 : u1.cell? ⟨w.heap.size, 3, none⟩ = some (.int .u64 x.num) := HA_u1.out.cell 3
  have z4 : u1.cell? ⟨w.heap.size, 4, none⟩ = some (.int .i64 x.node) := HA_u1.out.cell 4
  have z5 : u1.cell? ⟨w.heap.size, 5, none⟩ = some (.int .u64 x.life) := HA_u1.out.cell 5
  have z6 : u1.cell? ⟨w.heap.size, 6, none⟩ = some (.int .i64 x.n) := HA_u1.out.cell 6
  have z7 : u1.cell? ⟨w.heap.size, 7, none⟩ = some (.int .i64 x.op) := HA_u1.out.cell 7
  have z8 : u1.cell? ⟨w.heap.size, 8, none⟩ = some (.string x.key) := HA_u1.out.cell 8
  have z9 : u1.cell? ⟨w.heap.size, 9, none⟩ = some (.string x.val) := HA_u1.out.cell 9
  have z10 : u1.cell? ⟨w.heap.size, 10, none⟩ = some (.bool x.has) := HA_u1.out.cell 10
  have z11 : u1.cell? ⟨w.heap.size, 11, none⟩ = some (.int .i64 x.code) := HA_u1.out.cell 11
  go_upto_region 3 with fail
  refine wp_region_ext (by kernel_rfl) ?_
  haveI nA := cls_ext u1.drew
  have q0 := cellX (W0 := u1.drew) (show u1.drew.cell? ⟨w.heap.size, 0, none⟩ = some (.int .i64 x.kind) from HA_u1.out.cell 0)
  have q1 := cellX (W0 := u1.drew) (show u1.drew.cell? ⟨w.heap.size, 1, none⟩ = some (.int .i64 x.frm) from HA_u1.out.cell 1)
  have q2 := cellX (W0 := u1.drew) (show u1.drew.cell? ⟨w.heap.size, 2, none⟩ = some (.int .i64 x.dst) from HA_u1.out.cell 2)
  have q3 := cellX (W0 := u1.drew) (show u1.drew.cell? ⟨w.heap.size, 3, none⟩ = some (.int .u64 x.num) from HA_u1.out.cell 3)
  have q4 := cellX (W0 := u1.drew) (show u1.drew.cell? ⟨w.heap.size, 4, none⟩ = some (.int .i64 x.node) from HA_u1.out.cell 4)
  have q5 := cellX (W0 := u1.drew) (show u1.drew.cell? ⟨w.heap.size, 5, none⟩ = some (.int .u64 x.life) from HA_u1.out.cell 5)
  have q6 := cellX (W0 := u1.drew) (show u1.drew.cell? ⟨w.heap.size, 6, none⟩ = some (.int .i64 x.n) from HA_u1.out.cell 6)
  have q7 := cellX (W0 := u1.drew) (show u1.drew.cell? ⟨w.heap.size, 7, none⟩ = some (.int .i64 x.op) from HA_u1.out.cell 7)
  have q8 := cellX (W0 := u1.drew) (show u1.drew.cell? ⟨w.heap.size, 8, none⟩ = some (.string x.key) from HA_u1.out.cell 8)
  have q9 := cellX (W0 := u1.drew) (show u1.drew.cell? ⟨w.heap.size, 9, none⟩ = some (.string x.val) from HA_u1.out.cell 9)
  have q10 := cellX (W0 := u1.drew) (show u1.drew.cell? ⟨w.heap.size, 10, none⟩ = some (.bool x.has) from HA_u1.out.cell 10)
  have q11 := cellX (W0 := u1.drew) (show u1.drew.cell? ⟨w.heap.size, 11, none⟩ = some (.int .i64 x.code) from HA_u1.out.cell 11)
  clear z0 z1 z2 z3 z4 z5 z6 z7 z8 z9 z10 z11
  refine wpAnyH_seg (by kernel_rfl) (fun _ _ _ h => h) [0, 1, 3, 4, 6, 7] 4 _ _ _ (Ext.refl _) (by kernel_rfl) ?_
  simp only [opsAt, List.getElem?_toArray, List.getElem?_cons_zero, List.getElem?_cons_succ, List.cons_append, List.nil_append]
  repeat (go_big_quiet_step (fail))
  refine wpQuiet_nil ?_
  clear nA q0 q1 q2 q3 q4 q5 q6 q7 q8 q9 q10 q11
  have y : Below u1.heap.size u1 u1.drew := (Below.refl _ _).drew
  generalize u1.drew = u2 at *
  have HA_u2 : Hid (Blk u2 w.heap.size #[.int .i64 x.kind, .int .i64 x.frm, .int .i64 x.dst, .int .u64 x.num, .int .i64 x.node, .int .u64 x.life, .int .i64 x.n, .int .i64 x.op, .string x.key, .string x.val, .bool x.has, .int .i64 x.code] 27) := Blk.of HA_u1.out (y.block _ HA_u1.out.lt)
  have HY_u2 : Hid (Below w.heap.size w u2) := HY_u1.out.trans (y.mono HY_u1.out.size)
  clear y HA_u1 HY_u1
  refine wpAnyH_callE (i := 2) (fuel := 3) 10 rfl (by kernel_rfl) rfl (Ext.refl _) (by kernel_rfl) (f := 13) (args := #[.slice none 0 0, .int .i64 x.kind]) (by kernel_rfl) (smallM_any none 0 0 [] x.kind _ (Src.nil _) HKB.out (by simp)) ?_
  rintro e u3 ⟨g1, c1, rfl, ho, y⟩
  refine ⟨_, rfl, y, ?_⟩
  obtain ⟨L1, hL⟩ : ∃ y, y = join [] (intB x.kind) := ⟨_, rfl⟩
  rw [← hL] at ho ⊢
  have HL1 : Hid (L1 = join [] (intB x.kind)) := hL
  clear hL
  have HB1 : Hid (L1.length ≤ 100) := catB HL1.out (Nat.zero_le _) (intB_len _)
  have HO_u3 : Hid (Own u3 w.heap.size (.slice (some ⟨g1, 0, none⟩) L1.length c1) L1) := ho.mono HY_u2.out.size
  clear ho
  have HA_u3 : Hid (Blk u3 w.heap.size #[.int .i64 x.kind, .int .i64 x.frm, .int .i64 x.dst, .int .u64 x.num, .int .i64 x.node, .int .u64 x.life, .int .i64 x.n, .int .i64 x.op, .string x.key, .string x.val, .bool x.has, .int .i64 x.code] 27) := Blk.of HA_u2.out (y.block _ HA_u2.out.lt)
  have HY_u3 : Hid (Below w.heap.size w u3) := HY_u2.out.trans (y.mono HY_u2.out.size)
  clear y HA_u2 HY_u2
  simp only [Act.put, List.setIfInBounds_toArray, List.set_cons_succ, List.set_cons_zero]
  refine wpAnyH_callE (i := 5) (fuel := 2) 13 rfl (by kernel_rfl) rfl (Ext.refl _) (by kernel_rfl) (f := 13) (args := #[.slice (some ⟨g1, 0, none⟩) L1.length c1, .int .i64 x.frm]) (by kernel_rfl) (smallM_any (some ⟨g1, 0, none⟩) L1.length c1 L1 x.frm _ HO_u3.out.src HFB.out (by have := HB1.out; omega)) ?_
  rintro e u4 ⟨g2, c2, rfl, ho, y⟩
  refine ⟨_, rfl, y, ?_⟩
  obtain ⟨L2, hL⟩ : ∃ y, y = join L1 (intB x.frm) := ⟨_, rfl⟩
  rw [← hL] at ho ⊢
  have HL2 : Hid (L2 = join L1 (intB x.frm)) := hL
  clear hL
  have HB2 : Hid (L2.length ≤ 200) := catB HL2.out HB1.out (intB_len _)
  have HO_u4 : Hid (Own u4 w.heap.size (.slice (some ⟨g2, 0, none⟩) L2.length c2) L2) := ho.mono HY_u3.out.size
  clear ho
  clear HO_u3
  have HA_u4 : Hid (Blk u4 w.heap.size #[.int .i64 x.kind, .int .i64 x.frm, .int .i64 x.dst, .int .u64 x.num, .int .i64 x.node, .int .u64 x.life, .int .i64 x.n, .int .i64 x.op, .string x.key, .string x.val, .bool x.has, .int .i64 x.code] 27) := Blk.of HA_u3.out (y.block _ HA_u3.out.lt)
  have HY_u4 : Hid (Below w.heap.size w u4) := HY_u3.out.trans (y.mono HY_u3.out.size)
  clear y HA_u3 HY_u3
  simp only [Act.put, List.setIfInBounds_toArray, List.set_cons_succ, List.set_cons_zero]
  refine wpAnyH_callE (i := 8) (fuel := 1) 16 rfl (by kernel_rfl) rfl (Ext.refl _) (by kernel_rfl) (f := 13) (args := #[.slice (some ⟨g2, 0, none⟩) L2.length c2, .int .i64 x.dst]) (by kernel_rfl) (smallM_any (some ⟨g2, 0, none⟩) L2.length c2 L2 x.dst _ HO_u4.out.src HDB.out (by have := HB2.out; omega)) ?_
  rintro e u5 ⟨g3, c3, rfl, ho, y⟩
  refine ⟨_, rfl, y, ?_⟩
  obtain ⟨L3, hL⟩ : ∃ y, y = join L2 (intB x.dst) := ⟨_, rfl⟩
  rw [← hL] at ho ⊢
  have HL3 : Hid (L3 = join L2 (intB x.dst)) := hL
  clear hL
  have HB3 : Hid (L3.length ≤ 300) := catB HL3.out HB2.out (intB_len _)
  have HO_u5 : Hid (Own u5 w.heap.size (.slice (some ⟨g3, 0, none⟩) L3.length c3) L3) := ho.mono HY_u4.out.size
  clear ho
  clear HO_u4
  have HA_u5 : Hid (Blk u5 w.heap.size #[.int .i64 x.kind, .int .i64 x.frm, .int .i64 x.dst, .int .u64 x.num, .int .i64 x.node, .int .u64 x.life, .int .i64 x.n, .int .i64 x.op, .string x.key, .string x.val, .bool x.has, .int .i64 x.code] 27) := Blk.of HA_u4.out (y.block _ HA_u4.out.lt)
  have HY_u5 : Hid (Below w.heap.size w u5) := HY_u4.out.trans (y.mono HY_u4.out.size)
  clear y HA_u4 HY_u4
  simp only [Act.put, List.setIfInBounds_toArray, List.set_cons_succ, List.set_cons_zero]
  haveI nA := cls_ext u5
  refine wpAnyH_seg (by kernel_rfl) (fun _ _ _ h => h) [9] 0 _ _ _ (Ext.refl _) (by kernel_rfl) ?_
  simp only [opsAt, List.getElem?_toArray, List.getElem?_cons_zero, List.getElem?_cons_succ, List.cons_append, List.nil_append]
  repeat (go_big_quiet_step (fail))
  refine wpQuiet_nil ?_
  clear nA
  refine wpAnyH_done (by kernel_rfl) (NoPanic.normal ?_) 0
  have z0 : u5.cell? ⟨w.heap.size, 0, none⟩ = some (.int .i64 x.kind) := HA_u5.out.cell 0
  have z1 : u5.cell? ⟨w.heap.size, 1, none⟩ = some (.int .i64 x.frm) := HA_u5.out.cell 1
  have z2 : u5.cell? ⟨w.heap.size, 2, none⟩ = some (.int .i64 x.dst) := HA_u5.out.cell 2
  have z3 : u5.cell? ⟨w.heap.size, 3, none⟩ = some (.int .u64 x.num) := HA_u5.out.cell 3
  have z4 : u5.cell? ⟨w.heap.size, 4, none⟩ = some (.int .i64 x.node) := HA_u5.out.cell 4
  have z5 : u5.cell? ⟨w.heap.size, 5, none⟩ = some (.int .u64 x.life) := HA_u5.out.cell 5
  have z6 : u5.cell? ⟨w.heap.size, 6, none⟩ = some (.int .i64 x.n) := HA_u5.out.cell 6
  have z7 : u5.cell? ⟨w.heap.size, 7, none⟩ = some (.int .i64 x.op) := HA_u5.out.cell 7
  have z8 : u5.cell? ⟨w.heap.size, 8, none⟩ = some (.string x.key) := HA_u5.out.cell 8
  have z9 : u5.cell? ⟨w.heap.size, 9, none⟩ = some (.string x.val) := HA_u5.out.cell 9
  have z10 : u5.cell? ⟨w.heap.size, 10, none⟩ = some (.bool x.has) := HA_u5.out.cell 10
  have z11 : u5.cell? ⟨w.heap.size, 11, none⟩ = some (.int .i64 x.code) := HA_u5.out.cell 11
  go_wp2_with fail
  refine (tidM_any (some ⟨g3, 0, none⟩) L3.length c3 L3 x.num x.node _ HO_u5.out.src HTB.out (by have := HB3.out; omega)).mono ?_
  rintro e u6 ⟨g4, c4, rfl, ho, y⟩
  obtain ⟨L4, hL⟩ : ∃ y, y = join L3 (tidB x.num x.node) := ⟨_, rfl⟩
  rw [← hL] at ho ⊢
  have HL4 : Hid (L4 = join L3 (tidB x.num x.node)) := hL
  clear hL
  have HB4 : Hid (L4.length ≤ 400) := catB HL4.out HB3.out (tidB_len _ _)
  have HO_u6 : Hid (Own u6 w.heap.size (.slice (some ⟨g4, 0, none⟩) L4.length c4) L4) := ho.mono HY_u5.out.size
  clear ho
  clear HO_u5
  have HA_u6 : Hid (Blk u6 w.heap.size #[.int .i64 x.kind, .int .i64 x.frm, .int .i64 x.dst, .int .u64 x.num, .int .i64 x.node, .int .u64 x.life, .int .i64 x.n, .int .i64 x.op, .string x.key, .string x.val, .bool x.has, .int .i64 x.code] 27) := Blk.of HA_u5.out (y.block _ HA_u5.out.lt)
  have HY_u6 : Hid (Below w.heap.size w u6) := HY_u5.out.trans (y.mono HY_u5.out.size)
  clear y HA_u5 HY_u5
  clear z0 z1 z2 z3 z4 z5 z6 z7 z8 z9 z10 z11
  have z0 : u6.cell? ⟨w.heap.size, 0, none⟩ = some (.int .i64 x.kind) := HA_u6.out.cell 0
  have z1 : u6.cell? ⟨w.heap.size, 1, none⟩ = some (.int .i64 x.frm) := HA_u6.out.cell 1
  have z2 : u6.cell? ⟨w.heap.size, 2, none⟩ = some (.int .i64 x.dst) := HA_u6.out.cell 2
  have z3 : u6.cell? ⟨w.heap.size, 3, none⟩ = some (.int .u64 x.num) := HA_u6.out.cell 3
  have z4 : u6.cell? ⟨w.heap.size, 4, none⟩ = some (.int .i64 x.node) := HA_u6.out.cell 4
  have z5 : u6.cell? ⟨w.heap.size, 5, none⟩ = some (.int .u64 x.life) := HA_u6.out.cell 5
  have z6 : u6.cell? ⟨w.heap.size, 6, none⟩ = some (.int .i64 x.n) := HA_u6.out.cell 6
  have z7 : u6.cell? ⟨w.heap.size, 7, none⟩ = some (.int .i64 x.op) := HA_u6.out.cell 7
  have z8 : u6.cell? ⟨w.heap.size, 8, none⟩ = some (.string x.key) := HA_u6.out.cell 8
  have z9 : u6.cell? ⟨w.heap.size, 9, none⟩ = some (.string x.val) := HA_u6.out.cell 9
  have z10 : u6.cell? ⟨w.heap.size, 10, none⟩ = some (.bool x.has) := HA_u6.out.cell 10
  have z11 : u6.cell? ⟨w.heap.size, 11, none⟩ = some (.int .i64 x.code) := HA_u6.out.cell 11
  go_wp2_with fail
  refine (hasLife_any x _).mono ?_
  rintro e u7 ⟨rfl, y⟩
  rw [hl]
  have HA_u7 : Hid (Blk u7 w.heap.size #[.int .i64 x.kind, .int .i64 x.frm, .int .i64 x.dst, .int .u64 x.num, .int .i64 x.node, .int .u64 x.life, .int .i64 x.n, .int .i64 x.op, .string x.key, .string x.val, .bool x.has, .int .i64 x.code] 27) := Blk.of HA_u6.out (y.block _ HA_u6.out.lt)
  have HY_u7 : Hid (Below w.heap.size w u7) := HY_u6.out.trans (y.mono HY_u6.out.size)
  have HO_u7 : Hid (Own u7 w.heap.size (.slice (some ⟨g4, 0, none⟩) L4.length c4) L4) := HO_u6.out.below y
  clear y HA_u6 HY_u6 HO_u6
  clear z0 z1 z2 z3 z4 z5 z6 z7 z8 z9 z10 z11
  have z0 : u7.cell? ⟨w.heap.size, 0, none⟩ = some (.int .i64 x.kind) := HA_u7.out.cell 0
  have z1 : u7.cell? ⟨w.heap.size, 1, none⟩ = some (.int .i64 x.frm) := HA_u7.out.cell 1
  have z2 : u7.cell? ⟨w.heap.size, 2, none⟩ = some (.int .i64 x.dst) := HA_u7.out.cell 2
  have z3 : u7.cell? ⟨w.heap.size, 3, none⟩ = some (.int .u64 x.num) := HA_u7.out.cell 3
  have z4 : u7.cell? ⟨w.heap.size, 4, none⟩ = some (.int .i64 x.node) := HA_u7.out.cell 4
  have z5 : u7.cell? ⟨w.heap.size, 5, none⟩ = some (.int .u64 x.life) := HA_u7.out.cell 5
  have z6 : u7.cell? ⟨w.heap.size, 6, none⟩ = some (.int .i64 x.n) := HA_u7.out.cell 6
  have z7 : u7.cell? ⟨w.heap.size, 7, none⟩ = some (.int .i64 x.op) := HA_u7.out.cell 7
  have z8 : u7.cell? ⟨w.heap.size, 8, none⟩ = some (.string x.key) := HA_u7.out.cell 8
  have z9 : u7.cell? ⟨w.heap.size, 9, none⟩ = some (.string x.val) := HA_u7.out.cell 9
  have z10 : u7.cell? ⟨w.heap.size, 10, none⟩ = some (.bool x.has) := HA_u7.out.cell 10
  have z11 : u7.cell? ⟨w.heap.size, 11, none⟩ = some (.int .i64 x.code) := HA_u7.out.cell 11
  go_wp2_with fail
  refine (hasN_any x _).mono ?_
  rintro e u8 ⟨rfl, y⟩
  rw [hn]
  have HA_u8 : Hid (Blk u8 w.heap.size #[.int .i64 x.kind, .int .i64 x.frm, .int .i64 x.dst, .int .u64 x.num, .int .i64 x.node, .int .u64 x.life, .int .i64 x.n, .int .i64 x.op, .string x.key, .string x.val, .bool x.has, .int .i64 x.code] 27) := Blk.of HA_u7.out (y.block _ HA_u7.out.lt)
  have HY_u8 : Hid (Below w.heap.size w u8) := HY_u7.out.trans (y.mono HY_u7.out.size)
  have HO_u8 : Hid (Own u8 w.heap.size (.slice (some ⟨g4, 0, none⟩) L4.length c4) L4) := HO_u7.out.below y
  clear y HA_u7 HY_u7 HO_u7
  clear z0 z1 z2 z3 z4 z5 z6 z7 z8 z9 z10 z11
  have z0 : u8.cell? ⟨w.heap.size, 0, none⟩ = some (.int .i64 x.kind) := HA_u8.out.cell 0
  have z1 : u8.cell? ⟨w.heap.size, 1, none⟩ = some (.int .i64 x.frm) := HA_u8.out.cell 1
  have z2 : u8.cell? ⟨w.heap.size, 2, none⟩ = some (.int .i64 x.dst) := HA_u8.out.cell 2
  have z3 : u8.cell? ⟨w.heap.size, 3, none⟩ = some (.int .u64 x.num) := HA_u8.out.cell 3
  have z4 : u8.cell? ⟨w.heap.size, 4, none⟩ = some (.int .i64 x.node) := HA_u8.out.cell 4
  have z5 : u8.cell? ⟨w.heap.size, 5, none⟩ = some (.int .u64 x.life) := HA_u8.out.cell 5
  have z6 : u8.cell? ⟨w.heap.size, 6, none⟩ = some (.int .i64 x.n) := HA_u8.out.cell 6
  have z7 : u8.cell? ⟨w.heap.size, 7, none⟩ = some (.int .i64 x.op) := HA_u8.out.cell 7
  have z8 : u8.cell? ⟨w.heap.size, 8, none⟩ = some (.string x.key) := HA_u8.out.cell 8
  have z9 : u8.cell? ⟨w.heap.size, 9, none⟩ = some (.string x.val) := HA_u8.out.cell 9
  have z10 : u8.cell? ⟨w.heap.size, 10, none⟩ = some (.bool x.has) := HA_u8.out.cell 10
  have z11 : u8.cell? ⟨w.heap.size, 11, none⟩ = some (.int .i64 x.code) := HA_u8.out.cell 11
  go_wp2_with fail
  refine (hasCode_any x _).mono ?_
  rintro e u9 ⟨rfl, y⟩
  rw [hc]
  have HA_u9 : Hid (Blk u9 w.heap.size #[.int .i64 x.kind, .int .i64 x.frm, .int .i64 x.dst, .int .u64 x.num, .int .i64 x.node, .int .u64 x.life, .int .i64 x.n, .int .i64 x.op, .string x.key, .string x.val, .bool x.has, .int .i64 x.code] 27) := Blk.of HA_u8.out (y.block _ HA_u8.out.lt)
  have HY_u9 : Hid (Below w.heap.size w u9) := HY_u8.out.trans (y.mono HY_u8.out.size)
  have HO_u9 : Hid (Own u9 w.heap.size (.slice (some ⟨g4, 0, none⟩) L4.length c4) L4) := HO_u8.out.below y
  clear y HA_u8 HY_u8 HO_u8
  clear z0 z1 z2 z3 z4 z5 z6 z7 z8 z9 z10 z11
  have z0 : u9.cell? ⟨w.heap.size, 0, none⟩ = some (.int .i64 x.kind) := HA_u9.out.cell 0
  have z1 : u9.cell? ⟨w.heap.size, 1, none⟩ = some (.int .i64 x.frm) := HA_u9.out.cell 1
  have z2 : u9.cell? ⟨w.heap.size, 2, none⟩ = some (.int .i64 x.dst) := HA_u9.out.cell 2
  have z3 : u9.cell? ⟨w.heap.size, 3, none⟩ = some (.int .u64 x.num) := HA_u9.out.cell 3
  have z4 : u9.cell? ⟨w.heap.size, 4, none⟩ = some (.int .i64 x.node) := HA_u9.out.cell 4
  have z5 : u9.cell? ⟨w.heap.size, 5, none⟩ = some (.int .u64 x.life) := HA_u9.out.cell 5
  have z6 : u9.cell? ⟨w.heap.size, 6, none⟩ = some (.int .i64 x.n) := HA_u9.out.cell 6
  have z7 : u9.cell? ⟨w.heap.size, 7, none⟩ = some (.int .i64 x.op) := HA_u9.out.cell 7
  have z8 : u9.cell? ⟨w.heap.size, 8, none⟩ = some (.string x.key) := HA_u9.out.cell 8
  have z9 : u9.cell? ⟨w.heap.size, 9, none⟩ = some (.string x.val) := HA_u9.out.cell 9
  have z10 : u9.cell? ⟨w.heap.size, 10, none⟩ = some (.bool x.has) := HA_u9.out.cell 10
  have z11 : u9.cell? ⟨w.heap.size, 11, none⟩ = some (.int .i64 x.code) := HA_u9.out.cell 11
  go_wp2_with fail
  refine (smallM_any (some ⟨g4, 0, none⟩) L4.length c4 L4 x.code _ HO_u9.out.src HCB.out (by have := HB4.out; omega)).mono ?_
  rintro e u10 ⟨g5, c5, rfl, ho, y⟩
  obtain ⟨L5, hL⟩ : ∃ y, y = join L4 (intB x.code) := ⟨_, rfl⟩
  rw [← hL] at ho ⊢
  have HL5 : Hid (L5 = join L4 (intB x.code)) := hL
  clear hL
  have HB5 : Hid (L5.length ≤ 500) := catB HL5.out HB4.out (intB_len _)
  have HO_u10 : Hid (Own u10 w.heap.size (.slice (some ⟨g5, 0, none⟩) L5.length c5) L5) := ho.mono HY_u9.out.size
  clear ho
  clear HO_u9
  have HA_u10 : Hid (Blk u10 w.heap.size #[.int .i64 x.kind, .int .i64 x.frm, .int .i64 x.dst, .int .u64 x.num, .int .i64 x.node, .int .u64 x.life, .int .i64 x.n, .int .i64 x.op, .string x.key, .string x.val, .bool x.has, .int .i64 x.code] 27) := Blk.of HA_u9.out (y.block _ HA_u9.out.lt)
  have HY_u10 : Hid (Below w.heap.size w u10) := HY_u9.out.trans (y.mono HY_u9.out.size)
  clear y HA_u9 HY_u9
  clear z0 z1 z2 z3 z4 z5 z6 z7 z8 z9 z10 z11
  have z0 : u10.cell? ⟨w.heap.size, 0, none⟩ = some (.int .i64 x.kind) := HA_u10.out.cell 0
  have z1 : u10.cell? ⟨w.heap.size, 1, none⟩ = some (.int .i64 x.frm) := HA_u10.out.cell 1
  have z2 : u10.cell? ⟨w.heap.size, 2, none⟩ = some (.int .i64 x.dst) := HA_u10.out.cell 2
  have z3 : u10.cell? ⟨w.heap.size, 3, none⟩ = some (.int .u64 x.num) := HA_u10.out.cell 3
  have z4 : u10.cell? ⟨w.heap.size, 4, none⟩ = some (.int .i64 x.node) := HA_u10.out.cell 4
  have z5 : u10.cell? ⟨w.heap.size, 5, none⟩ = some (.int .u64 x.life) := HA_u10.out.cell 5
  have z6 : u10.cell? ⟨w.heap.size, 6, none⟩ = some (.int .i64 x.n) := HA_u10.out.cell 6
  have z7 : u10.cell? ⟨w.heap.size, 7, none⟩ = some (.int .i64 x.op) := HA_u10.out.cell 7
  have z8 : u10.cell? ⟨w.heap.size, 8, none⟩ = some (.string x.key) := HA_u10.out.cell 8
  have z9 : u10.cell? ⟨w.heap.size, 9, none⟩ = some (.string x.val) := HA_u10.out.cell 9
  have z10 : u10.cell? ⟨w.heap.size, 10, none⟩ = some (.bool x.has) := HA_u10.out.cell 10
  have z11 : u10.cell? ⟨w.heap.size, 11, none⟩ = some (.int .i64 x.code) := HA_u10.out.cell 11
  have HEQ : Hid (L5 = msgB x) := by show _ = _; rw [HM.out, HL5.out, HL4.out, HL3.out, HL2.out, HL1.out]
  go_wp2
  go_ret2
  refine ⟨.inl ⟨HR.out, g5, c5, ?_, ?_⟩, HY_u10.out⟩
  · rw [HEQ.out]; rfl
  · have := HO_u10.out
    rw [HEQ.out] at this
    exact this
set_option maxRecDepth 100000 in
set_option maxHeartbeats 8000000 in
theorem encode0_any (x : MsgQ) (w : World) (hr : RightM x) (hw : x.Wf) (hk : (x.kind ≠ 2 ∧ x.kind ≠ 3 ∧ x.kind ≠ 4 ∧ x.kind ≠ 5 ∧ x.kind ≠ 6)) : Calls Try.prog 8 #[.agg #[.int .i64 x.kind, .int .i64 x.frm, .int .i64 x.dst, .int .u64 x.num, .int .i64 x.node, .int .u64 x.life, .int .i64 x.n, .int .i64 x.op, .string x.key, .string x.val, .bool x.has, .int .i64 x.code]] w (EncM x w) := by
  have HR : Hid (RightM x) := hr
  have hl : hasLifeB x.kind = false := decide_eq_false (by omega)
  have hn : hasNB x.kind = false := decide_eq_false (by omega)
  have hc : hasCodeB x.kind = false := decide_eq_false (by omega)
  have e3 : (x.kind == 3) = false := by exact beq_eq_false_iff_ne.2 (by omega)
  have e4 : (x.kind == 4) = false := by exact beq_eq_false_iff_ne.2 (by omega)
  have HM : Hid (msgB x = (join (join (join (join [] (intB x.kind)) (intB x.frm)) (intB x.dst)) (tidB x.num x.node))) := by
    show _ = _
    unfold msgB bodyB lifeB nB doB codeB didB join
    rw [hl, hn, hc]
    simp [hk.2.1, hk.2.2.1, List.append_assoc]
  have HKB : Hid (0 ≤ x.kind ∧ x.kind < 9223372036854775808) := by have := hr.kind; show _ ∧ _; omega
  have HFB : Hid (0 ≤ x.frm ∧ x.frm < 9223372036854775808) := by have := hr.frm; show _ ∧ _; omega
  have HDB : Hid (0 ≤ x.dst ∧ x.dst < 9223372036854775808) := by have := hr.dst; show _ ∧ _; omega
  have HTB : Hid (0 ≤ x.num ∧ x.num < 18446744073709551616) := hw.2.2.2.1
  have HLB : Hid (0 ≤ x.life ∧ x.life < 18446744073709551616) := hw.2.2.2.2.2.1
  have HNB : Hid (0 ≤ x.n ∧ x.n < 9223372036854775808) := by have := hr.n; show _ ∧ _; omega
  have HCB : Hid (0 ≤ x.code ∧ x.code < 9223372036854775808) := by have := hr.code; show _ ∧ _; omega
  have HKV : Hid (x.key.size ≤ 9223372036854775807 ∧ x.val.size ≤ 9223372036854775807) := ⟨hw.2.2.2.2.2.2.2.2.1, hw.2.2.2.2.2.2.2.2.2.1⟩
  have HVS : Hid (x.val.size ≤ 48) := by show _ ≤ _; rcases hr.val with e | e <;> omega
  have HRM : Hid (rightM x = true) := (right_iff x).2 hr
  clear hr hw hk
  have HA : Hid (Blk (w.alloc (.cells #[.int .i64 x.kind, .int .i64 x.frm, .int .i64 x.dst, .int .u64 x.num, .int .i64 x.node, .int .u64 x.life, .int .i64 x.n, .int .i64 x.op, .string x.key, .string x.val, .bool x.has, .int .i64 x.code] 27)) w.heap.size #[.int .i64 x.kind, .int .i64 x.frm, .int .i64 x.dst, .int .u64 x.num, .int .i64 x.node, .int .u64 x.life, .int .i64 x.n, .int .i64 x.op, .string x.key, .string x.val, .bool x.has, .int .i64 x.code] 27) := Blk.new _ _ _
  have HY : Hid (Below w.heap.size w (w.alloc (.cells #[.int .i64 x.kind, .int .i64 x.frm, .int .i64 x.dst, .int .u64 x.num, .int .i64 x.node, .int .u64 x.life, .int .i64 x.n, .int .i64 x.op, .string x.key, .string x.val, .bool x.has, .int .i64 x.code] 27))) := (Below.refl _ _).alloc (Nat.le_refl _) _
  go_enter Try.func8, Try.ntmps8
  go_upto_region 1 with fail
  generalize w.alloc (.cells #[.int .i64 x.kind, .int .i64 x.frm, .int .i64 x.dst, .int .u64 x.num, .int .i64 x.node, .int .u64 x.life, .int .i64 x.n, .int .i64 x.op, .string x.key, .string x.val, .bool x.has, .int .i64 x.code] 27) = w0 at *
  have z0 : w0.cell? ⟨w.heap.size, 0, none⟩ = some (.int .i64 x.kind) := HA.out.cell 0
  have z1 : w0.cell? ⟨w.heap.size, 1, none⟩ = some (.int .i64 x.frm) := HA.out.cell 1
  have z2 : w0.cell? ⟨w.heap.size, 2, none⟩ = some (.int .i64 x.dst) := HA.out.cell 2
  have z3 : w0.cell? ⟨w.heap.size, 3, none⟩ = some (.int .u64 x.num) := HA.out.cell 3
  have z4 : w0.cell? ⟨w.heap.size, 4, none⟩ = some (.int .i64 x.node) := HA.out.cell 4
  have z5 : w0.cell? ⟨w.heap.size, 5, none⟩ = some (.int .u64 x.life) := HA.out.cell 5
  have z6 : w0.cell? ⟨w.heap.size, 6, none⟩ = some (.int .i64 x.n) := HA.out.cell 6
  have z7 : w0.cell? ⟨w.heap.size, 7, none⟩ = some (.int .i64 x.op) := HA.out.cell 7
  have z8 : w0.cell? ⟨w.heap.size, 8, none⟩ = some (.string x.key) := HA.out.cell 8
  have z9 : w0.cell? ⟨w.heap.size, 9, none⟩ = some (.string x.val) := HA.out.cell 9
  have z10 : w0.cell? ⟨w.heap.size, 10, none⟩ = some (.bool x.has) := HA.out.cell 10
  have z11 : w0.cell? ⟨w.heap.size, 11, none⟩ = some (.int .i64 x.code) := HA.out.cell 11
  go_wp2_with fail
  refine (right15_any x _ HKV.out.1 HKV.out.2).mono ?_
  rintro e u1 ⟨rfl, y⟩
  rw [HRM.out]
  have HA_u1 : Hid (Blk u1 w.heap.size #[.int .i64 x.kind, .int .i64 x.frm, .int .i64 x.dst, .int .u64 x.num, .int .i64 x.node, .int .u64 x.life, .int .i64 x.n, .int .i64 x.op, .string x.key, .string x.val, .bool x.has, .int .i64 x.code] 27) := Blk.of HA.out (y.block _ HA.out.lt)
  have HY_u1 : Hid (Below w.heap.size w u1) := HY.out.trans (y.mono HY.out.size)
  clear y HA HY
  clear z0 z1 z2 z3 z4 z5 z6 z7 z8 z9 z10 z11
  have z0 : u1.cell? ⟨w.heap.size, 0, none⟩ = some (.int .i64 x.kind) := HA_u1.out.cell 0
  have z1 : u1.cell? ⟨w.heap.size, 1, none⟩ = some (.int .i64 x.frm) := HA_u1.out.cell 1
  have z2 : u1.cell? ⟨w.heap.size, 2, none⟩ = some (.int .i64 x.dst) := HA_u1.out.cell 2
  have z3 : u1.cell? ⟨w.heap.size, 3, none⟩ = some (.int .u64 x.num) := HA_u1.out.cell 3
  have z4 : u1.cell? ⟨w.heap.size, 4, none⟩ = some (.int .i64 x.node) := HA_u1.out.cell 4
  have z5 : u1.cell? ⟨w.heap.size, 5, none⟩ = some (.int .u64 x.life) := HA_u1.out.cell 5
  have z6 : u1.cell? ⟨w.heap.size, 6, none⟩ = some (.int .i64 x.n) := HA_u1.out.cell 6
  have z7 : u1.cell? ⟨w.heap.size, 7, none⟩ = some (.int .i64 x.op) := HA_u1.out.cell 7
  have z8 : u1.cell? ⟨w.heap.size, 8, none⟩ = some (.string x.key) := HA_u1.out.cell 8
  have z9 : u1.cell? ⟨w.heap.size, 9, none⟩ = some (.string x.val) := HA_u1.out.cell 9
  have z10 : u1.cell? ⟨w.heap.size, 10, none⟩ = some (.bool x.has) := HA_u1.out.cell 10
  have z11 : u1.cell? ⟨w.heap.size, 11, none⟩ = some (.int .i64 x.code) := HA_u1.out.cell 11
  go_upto_region 3 with fail
  refine wp_region_ext (by kernel_rfl) ?_
  haveI nA := cls_ext u1.drew
  have q0 := cellX (W0 := u1.drew) (show u1.drew.cell? ⟨w.heap.size, 0, none⟩ = some (.int .i64 x.kind) from HA_u1.out.cell 0)
  have q1 := cellX (W0 := u1.drew) (show u1.drew.cell? ⟨w.heap.size, 1, none⟩ = some (.int .i64 x.frm) from HA_u1.out.cell 1)
  have q2 := cellX (W0 := u1.drew) (show u1.drew.cell? ⟨w.heap.size, 2, none⟩ = some (.int .i64 x.dst) from HA_u1.out.cell 2)
  have q3 := cellX (W0 := u1.drew) (show u1.drew.cell? ⟨w.heap.size, 3, none⟩ = some (.int .u64 x.num) from HA_u1.out.cell 3)
  have q4 := cellX (W0 := u1.drew) (show u1.drew.cell? ⟨w.heap.size, 4, none⟩ = some (.int .i64 x.node) from HA_u1.out.cell 4)
  have q5 := cellX (W0 := u1.drew) (show u1.drew.cell? ⟨w.heap.size, 5, none⟩ = some (.int .u64 x.life) from HA_u1.out.cell 5)
  have q6 := cellX (W0 := u1.drew) (show u1.drew.cell? ⟨w.heap.size, 6, none⟩ = some (.int .i64 x.n) from HA_u1.out.cell 6)
  have q7 := cellX (W0 := u1.drew) (show u1.drew.cell? ⟨w.heap.size, 7, none⟩ = some (.int .i64 x.op) from HA_u1.out.cell 7)
  have q8 := cellX (W0 := u1.drew) (show u1.drew.cell? ⟨w.heap.size, 8, none⟩ = some (.string x.key) from HA_u1.out.cell 8)
  have q9 := cellX (W0 := u1.drew) (show u1.drew.cell? ⟨w.heap.size, 9, none⟩ = some (.string x.val) from HA_u1.out.cell 9)
  have q10 := cellX (W0 := u1.drew) (show u1.drew.cell? ⟨w.heap.size, 10, none⟩ = some (.bool x.has) from HA_u1.out.cell 10)
  have q11 := cellX (W0 := u1.drew) (show u1.drew.cell? ⟨w.heap.size, 11, none⟩ = some (.int .i64 x.code) from HA_u1.out.cell 11)
  clear z0 z1 z2 z3 z4 z5 z6 z7 z8 z9 z10 z11
  refine wpAnyH_seg (by kernel_rfl) (fun _ _ _ h => h) [0, 1, 3, 4, 6, 7] 4 _ _ _ (Ext.refl _) (by kernel_rfl) ?_
  simp only [opsAt, List.getElem?_toArray, List.getElem?_cons_zero, List.getElem?_cons_succ, List.cons_append, List.nil_append]
  repeat (go_big_quiet_step (fail))
  refine wpQuiet_nil ?_
  clear nA q0 q1 q2 q3 q4 q5 q6 q7 q8 q9 q10 q11
  have y : Below u1.heap.size u1 u1.drew := (Below.refl _ _).drew
  generalize u1.drew = u2 at *
  have HA_u2 : Hid (Blk u2 w.heap.size #[.int .i64 x.kind, .int .i64 x.frm, .int .i64 x.dst, .int .u64 x.num, .int .i64 x.node, .int .u64 x.life, .int .i64 x.n, .int .i64 x.op, .string x.key, .string x.val, .bool x.has, .int .i64 x.code] 27) := Blk.of HA_u1.out (y.block _ HA_u1.out.lt)
  have HY_u2 : Hid (Below w.heap.size w u2) := HY_u1.out.trans (y.mono HY_u1.out.size)
  clear y HA_u1 HY_u1
  refine wpAnyH_callE (i := 2) (fuel := 3) 10 rfl (by kernel_rfl) rfl (Ext.refl _) (by kernel_rfl) (f := 13) (args := #[.slice none 0 0, .int .i64 x.kind]) (by kernel_rfl) (smallM_any none 0 0 [] x.kind _ (Src.nil _) HKB.out (by simp)) ?_
  rintro e u3 ⟨g1, c1, rfl, ho, y⟩
  refine ⟨_, rfl, y, ?_⟩
  obtain ⟨L1, hL⟩ : ∃ y, y = join [] (intB x.kind) := ⟨_, rfl⟩
  rw [← hL] at ho ⊢
  have HL1 : Hid (L1 = join [] (intB x.kind)) := hL
  clear hL
  have HB1 : Hid (L1.length ≤ 100) := catB HL1.out (Nat.zero_le _) (intB_len _)
  have HO_u3 : Hid (Own u3 w.heap.size (.slice (some ⟨g1, 0, none⟩) L1.length c1) L1) := ho.mono HY_u2.out.size
  clear ho
  have HA_u3 : Hid (Blk u3 w.heap.size #[.int .i64 x.kind, .int .i64 x.frm, .int .i64 x.dst, .int .u64 x.num, .int .i64 x.node, .int .u64 x.life, .int .i64 x.n, .int .i64 x.op, .string x.key, .string x.val, .bool x.has, .int .i64 x.code] 27) := Blk.of HA_u2.out (y.block _ HA_u2.out.lt)
  have HY_u3 : Hid (Below w.heap.size w u3) := HY_u2.out.trans (y.mono HY_u2.out.size)
  clear y HA_u2 HY_u2
  simp only [Act.put, List.setIfInBounds_toArray, List.set_cons_succ, List.set_cons_zero]
  refine wpAnyH_callE (i := 5) (fuel := 2) 13 rfl (by kernel_rfl) rfl (Ext.refl _) (by kernel_rfl) (f := 13) (args := #[.slice (some ⟨g1, 0, none⟩) L1.length c1, .int .i64 x.frm]) (by kernel_rfl) (smallM_any (some ⟨g1, 0, none⟩) L1.length c1 L1 x.frm _ HO_u3.out.src HFB.out (by have := HB1.out; omega)) ?_
  rintro e u4 ⟨g2, c2, rfl, ho, y⟩
  refine ⟨_, rfl, y, ?_⟩
  obtain ⟨L2, hL⟩ : ∃ y, y = join L1 (intB x.frm) := ⟨_, rfl⟩
  rw [← hL] at ho ⊢
  have HL2 : Hid (L2 = join L1 (intB x.frm)) := hL
  clear hL
  have HB2 : Hid (L2.length ≤ 200) := catB HL2.out HB1.out (intB_len _)
  have HO_u4 : Hid (Own u4 w.heap.size (.slice (some ⟨g2, 0, none⟩) L2.length c2) L2) := ho.mono HY_u3.out.size
  clear ho
  clear HO_u3
  have HA_u4 : Hid (Blk u4 w.heap.size #[.int .i64 x.kind, .int .i64 x.frm, .int .i64 x.dst, .int .u64 x.num, .int .i64 x.node, .int .u64 x.life, .int .i64 x.n, .int .i64 x.op, .string x.key, .string x.val, .bool x.has, .int .i64 x.code] 27) := Blk.of HA_u3.out (y.block _ HA_u3.out.lt)
  have HY_u4 : Hid (Below w.heap.size w u4) := HY_u3.out.trans (y.mono HY_u3.out.size)
  clear y HA_u3 HY_u3
  simp only [Act.put, List.setIfInBounds_toArray, List.set_cons_succ, List.set_cons_zero]
  refine wpAnyH_callE (i := 8) (fuel := 1) 16 rfl (by kernel_rfl) rfl (Ext.refl _) (by kernel_rfl) (f := 13) (args := #[.slice (some ⟨g2, 0, none⟩) L2.length c2, .int .i64 x.dst]) (by kernel_rfl) (smallM_any (some ⟨g2, 0, none⟩) L2.length c2 L2 x.dst _ HO_u4.out.src HDB.out (by have := HB2.out; omega)) ?_
  rintro e u5 ⟨g3, c3, rfl, ho, y⟩
  refine ⟨_, rfl, y, ?_⟩
  obtain ⟨L3, hL⟩ : ∃ y, y = join L2 (intB x.dst) := ⟨_, rfl⟩
  rw [← hL] at ho ⊢
  have HL3 : Hid (L3 = join L2 (intB x.dst)) := hL
  clear hL
  have HB3 : Hid (L3.length ≤ 300) := catB HL3.out HB2.out (intB_len _)
  have HO_u5 : Hid (Own u5 w.heap.size (.slice (some ⟨g3, 0, none⟩) L3.length c3) L3) := ho.mono HY_u4.out.size
  clear ho
  clear HO_u4
  have HA_u5 : Hid (Blk u5 w.heap.size #[.int .i64 x.kind, .int .i64 x.frm, .int .i64 x.dst, .int .u64 x.num, .int .i64 x.node, .int .u64 x.life, .int .i64 x.n, .int .i64 x.op, .string x.key, .string x.val, .bool x.has, .int .i64 x.code] 27) := Blk.of HA_u4.out (y.block _ HA_u4.out.lt)
  have HY_u5 : Hid (Below w.heap.size w u5) := HY_u4.out.trans (y.mono HY_u4.out.size)
  clear y HA_u4 HY_u4
  simp only [Act.put, List.setIfInBounds_toArray, List.set_cons_succ, List.set_cons_zero]
  haveI nA := cls_ext u5
  refine wpAnyH_seg (by kernel_rfl) (fun _ _ _ h => h) [9] 0 _ _ _ (Ext.refl _) (by kernel_rfl) ?_
  simp only [opsAt, List.getElem?_toArray, List.getElem?_cons_zero, List.getElem?_cons_succ, List.cons_append, List.nil_append]
  repeat (go_big_quiet_step (fail))
  refine wpQuiet_nil ?_
  clear nA
  refine wpAnyH_done (by kernel_rfl) (NoPanic.normal ?_) 0
  have z0 : u5.cell? ⟨w.heap.size, 0, none⟩ = some (.int .i64 x.kind) := HA_u5.out.cell 0
  have z1 : u5.cell? ⟨w.heap.size, 1, none⟩ = some (.int .i64 x.frm) := HA_u5.out.cell 1
  have z2 : u5.cell? ⟨w.heap.size, 2, none⟩ = some (.int .i64 x.dst) := HA_u5.out.cell 2
  have z3 : u5.cell? ⟨w.heap.size, 3, none⟩ = some (.int .u64 x.num) := HA_u5.out.cell 3
  have z4 : u5.cell? ⟨w.heap.size, 4, none⟩ = some (.int .i64 x.node) := HA_u5.out.cell 4
  have z5 : u5.cell? ⟨w.heap.size, 5, none⟩ = some (.int .u64 x.life) := HA_u5.out.cell 5
  have z6 : u5.cell? ⟨w.heap.size, 6, none⟩ = some (.int .i64 x.n) := HA_u5.out.cell 6
  have z7 : u5.cell? ⟨w.heap.size, 7, none⟩ = some (.int .i64 x.op) := HA_u5.out.cell 7
  have z8 : u5.cell? ⟨w.heap.size, 8, none⟩ = some (.string x.key) := HA_u5.out.cell 8
  have z9 : u5.cell? ⟨w.heap.size, 9, none⟩ = some (.string x.val) := HA_u5.out.cell 9
  have z10 : u5.cell? ⟨w.heap.size, 10, none⟩ = some (.bool x.has) := HA_u5.out.cell 10
  have z11 : u5.cell? ⟨w.heap.size, 11, none⟩ = some (.int .i64 x.code) := HA_u5.out.cell 11
  go_wp2_with fail
  refine (tidM_any (some ⟨g3, 0, none⟩) L3.length c3 L3 x.num x.node _ HO_u5.out.src HTB.out (by have := HB3.out; omega)).mono ?_
  rintro e u6 ⟨g4, c4, rfl, ho, y⟩
  obtain ⟨L4, hL⟩ : ∃ y, y = join L3 (tidB x.num x.node) := ⟨_, rfl⟩
  rw [← hL] at ho ⊢
  have HL4 : Hid (L4 = join L3 (tidB x.num x.node)) := hL
  clear hL
  have HB4 : Hid (L4.length ≤ 400) := catB HL4.out HB3.out (tidB_len _ _)
  have HO_u6 : Hid (Own u6 w.heap.size (.slice (some ⟨g4, 0, none⟩) L4.length c4) L4) := ho.mono HY_u5.out.size
  clear ho
  clear HO_u5
  have HA_u6 : Hid (Blk u6 w.heap.size #[.int .i64 x.kind, .int .i64 x.frm, .int .i64 x.dst, .int .u64 x.num, .int .i64 x.node, .int .u64 x.life, .int .i64 x.n, .int .i64 x.op, .string x.key, .string x.val, .bool x.has, .int .i64 x.code] 27) := Blk.of HA_u5.out (y.block _ HA_u5.out.lt)
  have HY_u6 : Hid (Below w.heap.size w u6) := HY_u5.out.trans (y.mono HY_u5.out.size)
  clear y HA_u5 HY_u5
  clear z0 z1 z2 z3 z4 z5 z6 z7 z8 z9 z10 z11
  have z0 : u6.cell? ⟨w.heap.size, 0, none⟩ = some (.int .i64 x.kind) := HA_u6.out.cell 0
  have z1 : u6.cell? ⟨w.heap.size, 1, none⟩ = some (.int .i64 x.frm) := HA_u6.out.cell 1
  have z2 : u6.cell? ⟨w.heap.size, 2, none⟩ = some (.int .i64 x.dst) := HA_u6.out.cell 2
  have z3 : u6.cell? ⟨w.heap.size, 3, none⟩ = some (.int .u64 x.num) := HA_u6.out.cell 3
  have z4 : u6.cell? ⟨w.heap.size, 4, none⟩ = some (.int .i64 x.node) := HA_u6.out.cell 4
  have z5 : u6.cell? ⟨w.heap.size, 5, none⟩ = some (.int .u64 x.life) := HA_u6.out.cell 5
  have z6 : u6.cell? ⟨w.heap.size, 6, none⟩ = some (.int .i64 x.n) := HA_u6.out.cell 6
  have z7 : u6.cell? ⟨w.heap.size, 7, none⟩ = some (.int .i64 x.op) := HA_u6.out.cell 7
  have z8 : u6.cell? ⟨w.heap.size, 8, none⟩ = some (.string x.key) := HA_u6.out.cell 8
  have z9 : u6.cell? ⟨w.heap.size, 9, none⟩ = some (.string x.val) := HA_u6.out.cell 9
  have z10 : u6.cell? ⟨w.heap.size, 10, none⟩ = some (.bool x.has) := HA_u6.out.cell 10
  have z11 : u6.cell? ⟨w.heap.size, 11, none⟩ = some (.int .i64 x.code) := HA_u6.out.cell 11
  go_wp2_with fail
  refine (hasLife_any x _).mono ?_
  rintro e u7 ⟨rfl, y⟩
  rw [hl]
  have HA_u7 : Hid (Blk u7 w.heap.size #[.int .i64 x.kind, .int .i64 x.frm, .int .i64 x.dst, .int .u64 x.num, .int .i64 x.node, .int .u64 x.life, .int .i64 x.n, .int .i64 x.op, .string x.key, .string x.val, .bool x.has, .int .i64 x.code] 27) := Blk.of HA_u6.out (y.block _ HA_u6.out.lt)
  have HY_u7 : Hid (Below w.heap.size w u7) := HY_u6.out.trans (y.mono HY_u6.out.size)
  have HO_u7 : Hid (Own u7 w.heap.size (.slice (some ⟨g4, 0, none⟩) L4.length c4) L4) := HO_u6.out.below y
  clear y HA_u6 HY_u6 HO_u6
  clear z0 z1 z2 z3 z4 z5 z6 z7 z8 z9 z10 z11
  have z0 : u7.cell? ⟨w.heap.size, 0, none⟩ = some (.int .i64 x.kind) := HA_u7.out.cell 0
  have z1 : u7.cell? ⟨w.heap.size, 1, none⟩ = some (.int .i64 x.frm) := HA_u7.out.cell 1
  have z2 : u7.cell? ⟨w.heap.size, 2, none⟩ = some (.int .i64 x.dst) := HA_u7.out.cell 2
  have z3 : u7.cell? ⟨w.heap.size, 3, none⟩ = some (.int .u64 x.num) := HA_u7.out.cell 3
  have z4 : u7.cell? ⟨w.heap.size, 4, none⟩ = some (.int .i64 x.node) := HA_u7.out.cell 4
  have z5 : u7.cell? ⟨w.heap.size, 5, none⟩ = some (.int .u64 x.life) := HA_u7.out.cell 5
  have z6 : u7.cell? ⟨w.heap.size, 6, none⟩ = some (.int .i64 x.n) := HA_u7.out.cell 6
  have z7 : u7.cell? ⟨w.heap.size, 7, none⟩ = some (.int .i64 x.op) := HA_u7.out.cell 7
  have z8 : u7.cell? ⟨w.heap.size, 8, none⟩ = some (.string x.key) := HA_u7.out.cell 8
  have z9 : u7.cell? ⟨w.heap.size, 9, none⟩ = some (.string x.val) := HA_u7.out.cell 9
  have z10 : u7.cell? ⟨w.heap.size, 10, none⟩ = some (.bool x.has) := HA_u7.out.cell 10
  have z11 : u7.cell? ⟨w.heap.size, 11, none⟩ = some (.int .i64 x.code) := HA_u7.out.cell 11
  go_wp2_with fail
  refine (hasN_any x _).mono ?_
  rintro e u8 ⟨rfl, y⟩
  rw [hn]
  have HA_u8 : Hid (Blk u8 w.heap.size #[.int .i64 x.kind, .int .i64 x.frm, .int .i64 x.dst, .int .u64 x.num, .int .i64 x.node, .int .u64 x.life, .int .i64 x.n, .int .i64 x.op, .string x.key, .string x.val, .bool x.has, .int .i64 x.code] 27) := Blk.of HA_u7.out (y.block _ HA_u7.out.lt)
  have HY_u8 : Hid (Below w.heap.size w u8) := HY_u7.out.trans (y.mono HY_u7.out.size)
  have HO_u8 : Hid (Own u8 w.heap.size (.slice (some ⟨g4, 0, none⟩) L4.length c4) L4) := HO_u7.out.below y
  clear y HA_u7 HY_u7 HO_u7
  clear z0 z1 z2 z3 z4 z5 z6 z7 z8 z9 z10 z11
  have z0 : u8.cell? ⟨w.heap.size, 0, none⟩ = some (.int .i64 x.kind) := HA_u8.out.cell 0
  have z1 : u8.cell? ⟨w.heap.size, 1, none⟩ = some (.int .i64 x.frm) := HA_u8.out.cell 1
  have z2 : u8.cell? ⟨w.heap.size, 2, none⟩ = some (.int .i64 x.dst) := HA_u8.out.cell 2
  have z3 : u8.cell? ⟨w.heap.size, 3, none⟩ = some (.int .u64 x.num) := HA_u8.out.cell 3
  have z4 : u8.cell? ⟨w.heap.size, 4, none⟩ = some (.int .i64 x.node) := HA_u8.out.cell 4
  have z5 : u8.cell? ⟨w.heap.size, 5, none⟩ = some (.int .u64 x.life) := HA_u8.out.cell 5
  have z6 : u8.cell? ⟨w.heap.size, 6, none⟩ = some (.int .i64 x.n) := HA_u8.out.cell 6
  have z7 : u8.cell? ⟨w.heap.size, 7, none⟩ = some (.int .i64 x.op) := HA_u8.out.cell 7
  have z8 : u8.cell? ⟨w.heap.size, 8, none⟩ = some (.string x.key) := HA_u8.out.cell 8
  have z9 : u8.cell? ⟨w.heap.size, 9, none⟩ = some (.string x.val) := HA_u8.out.cell 9
  have z10 : u8.cell? ⟨w.heap.size, 10, none⟩ = some (.bool x.has) := HA_u8.out.cell 10
  have z11 : u8.cell? ⟨w.heap.size, 11, none⟩ = some (.int .i64 x.code) := HA_u8.out.cell 11
  go_wp2_with fail
  refine (hasCode_any x _).mono ?_
  rintro e u9 ⟨rfl, y⟩
  rw [hc]
  have HA_u9 : Hid (Blk u9 w.heap.size #[.int .i64 x.kind, .int .i64 x.frm, .int .i64 x.dst, .int .u64 x.num, .int .i64 x.node, .int .u64 x.life, .int .i64 x.n, .int .i64 x.op, .string x.key, .string x.val, .bool x.has, .int .i64 x.code] 27) := Blk.of HA_u8.out (y.block _ HA_u8.out.lt)
  have HY_u9 : Hid (Below w.heap.size w u9) := HY_u8.out.trans (y.mono HY_u8.out.size)
  have HO_u9 : Hid (Own u9 w.heap.size (.slice (some ⟨g4, 0, none⟩) L4.length c4) L4) := HO_u8.out.below y
  clear y HA_u8 HY_u8 HO_u8
  clear z0 z1 z2 z3 z4 z5 z6 z7 z8 z9 z10 z11
  have z0 : u9.cell? ⟨w.heap.size, 0, none⟩ = some (.int .i64 x.kind) := HA_u9.out.cell 0
  have z1 : u9.cell? ⟨w.heap.size, 1, none⟩ = some (.int .i64 x.frm) := HA_u9.out.cell 1
  have z2 : u9.cell? ⟨w.heap.size, 2, none⟩ = some (.int .i64 x.dst) := HA_u9.out.cell 2
  have z3 : u9.cell? ⟨w.heap.size, 3, none⟩ = some (.int .u64 x.num) := HA_u9.out.cell 3
  have z4 : u9.cell? ⟨w.heap.size, 4, none⟩ = some (.int .i64 x.node) := HA_u9.out.cell 4
  have z5 : u9.cell? ⟨w.heap.size, 5, none⟩ = some (.int .u64 x.life) := HA_u9.out.cell 5
  have z6 : u9.cell? ⟨w.heap.size, 6, none⟩ = some (.int .i64 x.n) := HA_u9.out.cell 6
  have z7 : u9.cell? ⟨w.heap.size, 7, none⟩ = some (.int .i64 x.op) := HA_u9.out.cell 7
  have z8 : u9.cell? ⟨w.heap.size, 8, none⟩ = some (.string x.key) := HA_u9.out.cell 8
  have z9 : u9.cell? ⟨w.heap.size, 9, none⟩ = some (.string x.val) := HA_u9.out.cell 9
  have z10 : u9.cell? ⟨w.heap.size, 10, none⟩ = some (.bool x.has) := HA_u9.out.cell 10
  have z11 : u9.cell? ⟨w.heap.size, 11, none⟩ = some (.int .i64 x.code) := HA_u9.out.cell 11
  have HEQ : Hid (L4 = msgB x) := by show _ = _; rw [HM.out, HL4.out, HL3.out, HL2.out, HL1.out]
  go_wp2
  go_ret2
  refine ⟨.inl ⟨HR.out, g4, c4, ?_, ?_⟩, HY_u9.out⟩
  · rw [HEQ.out]; rfl
  · have := HO_u9.out
    rw [HEQ.out] at this
    exact this
set_option maxHeartbeats 4000000 in
theorem encodeN_any (x : MsgQ) (w : World) (hr : ¬ RightM x) (hw : x.Wf) : Calls Try.prog 8 #[.agg #[.int .i64 x.kind, .int .i64 x.frm, .int .i64 x.dst, .int .u64 x.num, .int .i64 x.node, .int .u64 x.life, .int .i64 x.n, .int .i64 x.op, .string x.key, .string x.val, .bool x.has, .int .i64 x.code]] w (EncM x w) := by
  have HR : Hid (¬ RightM x) := hr
  have HRM : Hid (rightM x = false) := Bool.eq_false_iff.2 fun h => hr ((right_iff x).1 h)
  have HKV : Hid (x.key.size ≤ 9223372036854775807 ∧ x.val.size ≤ 9223372036854775807) := ⟨hw.2.2.2.2.2.2.2.2.1, hw.2.2.2.2.2.2.2.2.2.1⟩
  clear hr hw
  have HA : Hid (Blk (w.alloc (.cells #[.int .i64 x.kind, .int .i64 x.frm, .int .i64 x.dst, .int .u64 x.num, .int .i64 x.node, .int .u64 x.life, .int .i64 x.n, .int .i64 x.op, .string x.key, .string x.val, .bool x.has, .int .i64 x.code] 27)) w.heap.size #[.int .i64 x.kind, .int .i64 x.frm, .int .i64 x.dst, .int .u64 x.num, .int .i64 x.node, .int .u64 x.life, .int .i64 x.n, .int .i64 x.op, .string x.key, .string x.val, .bool x.has, .int .i64 x.code] 27) := Blk.new _ _ _
  have HY : Hid (Below w.heap.size w (w.alloc (.cells #[.int .i64 x.kind, .int .i64 x.frm, .int .i64 x.dst, .int .u64 x.num, .int .i64 x.node, .int .u64 x.life, .int .i64 x.n, .int .i64 x.op, .string x.key, .string x.val, .bool x.has, .int .i64 x.code] 27))) := (Below.refl _ _).alloc (Nat.le_refl _) _
  go_enter Try.func8, Try.ntmps8
  go_upto_region 1 with fail
  generalize w.alloc (.cells #[.int .i64 x.kind, .int .i64 x.frm, .int .i64 x.dst, .int .u64 x.num, .int .i64 x.node, .int .u64 x.life, .int .i64 x.n, .int .i64 x.op, .string x.key, .string x.val, .bool x.has, .int .i64 x.code] 27) = w0 at *
  have z0 : w0.cell? ⟨w.heap.size, 0, none⟩ = some (.int .i64 x.kind) := HA.out.cell 0
  have z1 : w0.cell? ⟨w.heap.size, 1, none⟩ = some (.int .i64 x.frm) := HA.out.cell 1
  have z2 : w0.cell? ⟨w.heap.size, 2, none⟩ = some (.int .i64 x.dst) := HA.out.cell 2
  have z3 : w0.cell? ⟨w.heap.size, 3, none⟩ = some (.int .u64 x.num) := HA.out.cell 3
  have z4 : w0.cell? ⟨w.heap.size, 4, none⟩ = some (.int .i64 x.node) := HA.out.cell 4
  have z5 : w0.cell? ⟨w.heap.size, 5, none⟩ = some (.int .u64 x.life) := HA.out.cell 5
  have z6 : w0.cell? ⟨w.heap.size, 6, none⟩ = some (.int .i64 x.n) := HA.out.cell 6
  have z7 : w0.cell? ⟨w.heap.size, 7, none⟩ = some (.int .i64 x.op) := HA.out.cell 7
  have z8 : w0.cell? ⟨w.heap.size, 8, none⟩ = some (.string x.key) := HA.out.cell 8
  have z9 : w0.cell? ⟨w.heap.size, 9, none⟩ = some (.string x.val) := HA.out.cell 9
  have z10 : w0.cell? ⟨w.heap.size, 10, none⟩ = some (.bool x.has) := HA.out.cell 10
  have z11 : w0.cell? ⟨w.heap.size, 11, none⟩ = some (.int .i64 x.code) := HA.out.cell 11
  go_wp2_with fail
  refine (right15_any x _ HKV.out.1 HKV.out.2).mono ?_
  rintro e w1 ⟨rfl, y⟩
  rw [HRM.out]
  have HY1 : Hid (Below w.heap.size w w1) := HY.out.trans (y.mono HY.out.size)
  clear y HA HY z0 z1 z2 z3 z4 z5 z6 z7 z8 z9 z10 z11
  go_wp2
  go_ret2
  exact ⟨.inr ⟨HR.out, rfl⟩, HY1.out⟩
theorem encode_any (x : MsgQ) (w : World) (hw : x.Wf) : Calls Try.prog 8 #[.agg #[.int .i64 x.kind, .int .i64 x.frm, .int .i64 x.dst, .int .u64 x.num, .int .i64 x.node, .int .u64 x.life, .int .i64 x.n, .int .i64 x.op, .string x.key, .string x.val, .bool x.has, .int .i64 x.code]] w (EncM x w) := by
  by_cases hr : RightM x
  · by_cases k2 : x.kind = 2
    · exact encode2_any x w hr hw k2
    by_cases k3 : x.kind = 3
    · exact encode3_any x w hr hw k3
    by_cases k4 : x.kind = 4
    · exact encode4_any x w hr hw k4
    by_cases k5 : x.kind = 5
    · exact encode5_any x w hr hw k5
    by_cases k6 : x.kind = 6
    · exact encode6_any x w hr hw k6
    exact encode0_any x w hr hw ⟨k2, k3, k4, k5, k6⟩
  · exact encodeN_any x w hr hw
end Go.Proofs.Ytefmeeffkjendaa

/- MsgTurns: the walk of the law's Go text. Own lemmas, no statement. -/
import Derived.Test.YtefmeeffkjendaaMsg6
import Derived.Test.YtefmeeffkjendaaMsg7
import Derived.Test.YtefmeeffkjendaaMsgOpen
import Derived.Test.YtefmeeffkjendaaSrcSeg
set_option linter.unusedSimpArgs false
set_option linter.unusedVariables false
namespace Go.Proofs.Ytefmeeffkjendaa
open Go.ChangeShapes Go.WideShapes Go.ChangeAt Go.RowKit

theorem and_leT (a : Int) (m : Nat) (hm : m < 9223372036854775808) : ∃ i : Nat, i ≤ m ∧ bits .and .i64 a (m : Int) = (i : Int) := by
  refine ⟨(BitVec.ofInt 64 a &&& BitVec.ofInt 64 (m : Int)).toNat, ?_, ?_⟩
  · rw [BitVec.toNat_and]
    refine Nat.le_trans Nat.and_le_right ?_
    rw [BitVec.ofInt_natCast, BitVec.toNat_ofNat]
    exact Nat.mod_le _ _
  · have hle : (BitVec.ofInt 64 a &&& BitVec.ofInt 64 (m : Int)).toNat ≤ m := by
      rw [BitVec.toNat_and]
      refine Nat.le_trans Nat.and_le_right ?_
      rw [BitVec.ofInt_natCast, BitVec.toNat_ofNat]
      exact Nat.mod_le _ _
    show IntKind.i64.wrap ((BitVec.ofInt 64 a &&& BitVec.ofInt 64 (m : Int)).toNat : Int) = _
    rw [IntKind.wrap_i64]
    omega
/-- A byte with other bits is another byte. -/
theorem xor_other (a b : UInt8) (hb : b ≠ 0) : ∃ c : UInt8, c ≠ a ∧ bits .xor .u8 (a.toNat : Int) (b.toNat : Int) = (c.toNat : Int) := by
  refine ⟨a ^^^ b, fun e => hb ?_, ?_⟩
  · have h1 : a ^^^ (a ^^^ b) = a ^^^ a := by rw [e]
    rw [← UInt8.xor_assoc, UInt8.xor_self, UInt8.zero_xor] at h1
    exact h1
  · have h1 : (a ^^^ b).toNat = a.toNat ^^^ b.toNat := UInt8.toNat_xor a b
    have h2 : (BitVec.ofInt 8 (a.toNat : Int) ^^^ BitVec.ofInt 8 (b.toNat : Int)).toNat = a.toNat ^^^ b.toNat := by
      rw [BitVec.toNat_xor, BitVec.ofInt_natCast, BitVec.ofInt_natCast, BitVec.toNat_ofNat, BitVec.toNat_ofNat, Nat.mod_eq_of_lt a.toNat_lt, Nat.mod_eq_of_lt b.toNat_lt]
    have h3 := (a ^^^ b).toNat_lt
    show IntKind.u8.wrap ((BitVec.ofInt 8 (a.toNat : Int) ^^^ BitVec.ofInt 8 (b.toNat : Int)).toNat : Int) = _
    rw [h2, ← h1, IntKind.wrap_u8]
    omega
theorem set_ne {l : List UInt8} {i : Nat} (h : i < l.length) {c : UInt8} (hc : c ≠ l[i]) : l.set i c ≠ l := fun e => hc (by
  have := congrArg (fun t => t[i]?) e
  simpa [h] using this)
/-- A row of bytes of the call's own, with one byte turned. -/
theorem own_turn {W : World} {B : Nat} {v : Value} {l : List UInt8} {i : Nat} (h : Own W B v l) (hi : i < l.length) :
    ∃ g cap, v = .slice (some ⟨g, 0, none⟩) l.length cap ∧ B ≤ g ∧ g < W.heap.size ∧ W.cell? ⟨g, i, none⟩ = some (.int .u8 (l[i].toNat : Int)) ∧ W.frozen? ⟨g, i, none⟩ = false ∧ ∀ c : UInt8, Src (W.setCell ⟨g, i, none⟩ (.int .u8 (c.toNat : Int))) v (l.set i c) := by
  have hs := h.src
  rcases h.2 with ⟨_, hn⟩ | ⟨g, cap, cur, rfl, hb, hg, hnc, hcm, hcs, ht⟩
  · omega
  · have hG : Blk W g cur 5 := hg
    have hcell := h.cells rfl i (.int .u8 (l[i].toNat : Int)) (by simp [bv, hi])
    rw [show (⟨g, 0, none⟩ : Addr).add i = ⟨g, i, none⟩ by by_cases h0 : i = 0 <;> simp [Addr.add, h0]] at hcell
    refine ⟨g, cap, rfl, hb, hG.lt, hcell, hG.frozen i, fun c => ⟨some ⟨g, 0, none⟩, cap, by rw [List.length_set], by rw [List.length_set]; exact hnc, hcm, fun e => (by cases e), fun ad had j u hu => ?_⟩⟩
    cases had
    have hG2 := hG.set i (.int .u8 (c.toNat : Int))
    rw [show (⟨g, 0, none⟩ : Addr).add j = ⟨g, j, none⟩ by by_cases h0 : j = 0 <;> simp [Addr.add, h0], hG2.cell]
    have hj : j < l.length := by
      have := (List.getElem?_eq_some_iff.1 hu).1
      simpa [bv] using this
    have hcj := h.cells rfl j (.int .u8 (l[j].toNat : Int)) (by simp [bv, hj])
    rw [show (⟨g, 0, none⟩ : Addr).add j = ⟨g, j, none⟩ by by_cases h0 : j = 0 <;> simp [Addr.add, h0], hG.cell] at hcj
    have hjs : j < cur.size := (Array.getElem?_eq_some_iff.1 hcj).1
    by_cases e : i = j
    · subst e
      rw [← hu]
      simp [bv, hi, hjs]
    · rw [Array.getElem?_setIfInBounds_ne e, hcj, ← hu]
      simp [bv, hj, List.getElem_set_ne e]
theorem below_allocR {W : World} (o : Obj) : Below W.heap.size W (W.alloc o) := (Below.refl _ _).alloc (Nat.le_refl _) _
def zeroM : MsgQ := ⟨0, 0, 0, 0, 0, 0, 0, 0, ⟨#[]⟩, ⟨#[]⟩, false, 0⟩
/-- Decode's answer, in one form. -/
theorem decM_one {l : List UInt8} {w w' : World} {e : Ending} (h : DecM l w e w') : ∃ (z : MsgQ) (er : Int), e = .returned (.tuple #[.agg #[.int .i64 z.kind, .int .i64 z.frm, .int .i64 z.dst, .int .u64 z.num, .int .i64 z.node, .int .u64 z.life, .int .i64 z.n, .int .i64 z.op, .string z.key, .string z.val, .bool z.has, .int .i64 z.code], .int .i64 er]) ∧ Below w.heap.size w w' ∧ ((er = 0 ∧ z.Wf ∧ RightM z ∧ msgB z = l) ∨ er = 11) := by
  obtain ⟨h, y⟩ := h
  rcases h with ⟨z, he, h1, h2, h3⟩ | ⟨he, _⟩
  · exact ⟨z, 0, he, y, .inl ⟨rfl, h2, h1, h3⟩⟩
  · exact ⟨zeroM, 11, he, y, .inr rfl⟩
theorem bytes_some (x : MsgQ) : 0 < (msgB x).length := by
  unfold msgB intB
  have := enc_ne x.kind.toNat
  have h : 0 < (enc x.kind.toNat).length := List.length_pos_iff.2 this
  simp only [List.length_append]
  omega

set_option maxRecDepth 100000 in
set_option maxHeartbeats 8000000 in
theorem walk_MsgTurns (x : MsgQ) (at0 bts : Int) (w : World) (wx : x.Wf) (h1 : (Lit.int .i64 at0).wf = true) (h2 : (Lit.int .u8 bts).wf = true) : Calls Try.prog 5 #[.agg #[.int .i64 x.kind, .int .i64 x.frm, .int .i64 x.dst, .int .u64 x.num, .int .i64 x.node, .int .u64 x.life, .int .i64 x.n, .int .i64 x.op, .string x.key, .string x.val, .bool x.has, .int .i64 x.code], .int .i64 at0, .int .u8 bts] w fun e w' => e = .returned (.bool true) ∧ Below w.heap.size w w' := by
  have hb8 := bounds_u8 h2
  obtain ⟨bt, hbt⟩ : ∃ b : UInt8, bts = (b.toNat : Int) := ⟨UInt8.ofNat bts.toNat, by rw [UInt8.toNat_ofNat']; omega⟩
  subst hbt
  clear hb8 h2 h1
  obtain ⟨I, hI, hand⟩ := and_leT at0 65535 (by omega)
  have HX : Hid x.Wf := wx
  have hcast : ((65535 : Nat) : Int) = 65535 := rfl
  rw [hcast] at hand
  clear wx hcast
  have HB : Hid (Blk (w.alloc (.cells #[.int .i64 x.kind, .int .i64 x.frm, .int .i64 x.dst, .int .u64 x.num, .int .i64 x.node, .int .u64 x.life, .int .i64 x.n, .int .i64 x.op, .string x.key, .string x.val, .bool x.has, .int .i64 x.code] 27)) w.heap.size #[.int .i64 x.kind, .int .i64 x.frm, .int .i64 x.dst, .int .u64 x.num, .int .i64 x.node, .int .u64 x.life, .int .i64 x.n, .int .i64 x.op, .string x.key, .string x.val, .bool x.has, .int .i64 x.code] 27) := Blk.new _ _ _
  have HY : Hid (Below w.heap.size w (w.alloc (.cells #[.int .i64 x.kind, .int .i64 x.frm, .int .i64 x.dst, .int .u64 x.num, .int .i64 x.node, .int .u64 x.life, .int .i64 x.n, .int .i64 x.op, .string x.key, .string x.val, .bool x.has, .int .i64 x.code] 27))) := (Below.refl _ _).alloc (Nat.le_refl _) _
  go_enter Try.func5, Try.ntmps5
  go_upto_region 1 with fail
  generalize w.alloc (.cells #[.int .i64 x.kind, .int .i64 x.frm, .int .i64 x.dst, .int .u64 x.num, .int .i64 x.node, .int .u64 x.life, .int .i64 x.n, .int .i64 x.op, .string x.key, .string x.val, .bool x.has, .int .i64 x.code] 27) = w0 at *
  go_wp2_with fail
  refine (head15_any _).mono ?_
  rintro e w2 ⟨rfl, y⟩
  have HB' : Hid (Blk w2 w.heap.size #[.int .i64 x.kind, .int .i64 x.frm, .int .i64 x.dst, .int .u64 x.num, .int .i64 x.node, .int .u64 x.life, .int .i64 x.n, .int .i64 x.op, .string x.key, .string x.val, .bool x.has, .int .i64 x.code] 27) := Blk.of HB.out (y.block _ HB.out.lt)
  have HY' : Hid (Below w.heap.size w w2) := ext_trans HY.out y
  clear HB HY y
  have HB := HB'
  have HY := HY'
  clear HB' HY'
  have z0 : w2.cell? ⟨w.heap.size, 0, none⟩ = some (.int .i64 x.kind) := HB.out.cell 0
  have z1 : w2.cell? ⟨w.heap.size, 1, none⟩ = some (.int .i64 x.frm) := HB.out.cell 1
  have z2 : w2.cell? ⟨w.heap.size, 2, none⟩ = some (.int .i64 x.dst) := HB.out.cell 2
  have z3 : w2.cell? ⟨w.heap.size, 3, none⟩ = some (.int .u64 x.num) := HB.out.cell 3
  have z4 : w2.cell? ⟨w.heap.size, 4, none⟩ = some (.int .i64 x.node) := HB.out.cell 4
  have z5 : w2.cell? ⟨w.heap.size, 5, none⟩ = some (.int .u64 x.life) := HB.out.cell 5
  have z6 : w2.cell? ⟨w.heap.size, 6, none⟩ = some (.int .i64 x.n) := HB.out.cell 6
  have z7 : w2.cell? ⟨w.heap.size, 7, none⟩ = some (.int .i64 x.op) := HB.out.cell 7
  have z8 : w2.cell? ⟨w.heap.size, 8, none⟩ = some (.string x.key) := HB.out.cell 8
  have z9 : w2.cell? ⟨w.heap.size, 9, none⟩ = some (.string x.val) := HB.out.cell 9
  have z10 : w2.cell? ⟨w.heap.size, 10, none⟩ = some (.bool x.has) := HB.out.cell 10
  have z11 : w2.cell? ⟨w.heap.size, 11, none⟩ = some (.int .i64 x.code) := HB.out.cell 11
  have HIA : Hid (I ≤ 65535 ∧ bits .and .i64 at0 65535 = (I : Int)) := ⟨hI, hand⟩
  clear hI hand
  go_wp2_with fail
  refine (encode_any x w2 HX.out).mono ?_
  rintro e w3 ⟨he, y⟩
  have HB' : Hid (Blk w3 w.heap.size #[.int .i64 x.kind, .int .i64 x.frm, .int .i64 x.dst, .int .u64 x.num, .int .i64 x.node, .int .u64 x.life, .int .i64 x.n, .int .i64 x.op, .string x.key, .string x.val, .bool x.has, .int .i64 x.code] 27) := Blk.of HB.out (y.block _ HB.out.lt)
  have HY' : Hid (Below w.heap.size w w3) := ext_trans HY.out y
  clear HB HY y z0 z1 z2 z3 z4 z5 z6 z7 z8 z9 z10 z11
  have HB := HB'
  have HY := HY'
  clear HB' HY'
  have z0 : w3.cell? ⟨w.heap.size, 0, none⟩ = some (.int .i64 x.kind) := HB.out.cell 0
  have z1 : w3.cell? ⟨w.heap.size, 1, none⟩ = some (.int .i64 x.frm) := HB.out.cell 1
  have z2 : w3.cell? ⟨w.heap.size, 2, none⟩ = some (.int .i64 x.dst) := HB.out.cell 2
  have z3 : w3.cell? ⟨w.heap.size, 3, none⟩ = some (.int .u64 x.num) := HB.out.cell 3
  have z4 : w3.cell? ⟨w.heap.size, 4, none⟩ = some (.int .i64 x.node) := HB.out.cell 4
  have z5 : w3.cell? ⟨w.heap.size, 5, none⟩ = some (.int .u64 x.life) := HB.out.cell 5
  have z6 : w3.cell? ⟨w.heap.size, 6, none⟩ = some (.int .i64 x.n) := HB.out.cell 6
  have z7 : w3.cell? ⟨w.heap.size, 7, none⟩ = some (.int .i64 x.op) := HB.out.cell 7
  have z8 : w3.cell? ⟨w.heap.size, 8, none⟩ = some (.string x.key) := HB.out.cell 8
  have z9 : w3.cell? ⟨w.heap.size, 9, none⟩ = some (.string x.val) := HB.out.cell 9
  have z10 : w3.cell? ⟨w.heap.size, 10, none⟩ = some (.bool x.has) := HB.out.cell 10
  have z11 : w3.cell? ⟨w.heap.size, 11, none⟩ = some (.int .i64 x.code) := HB.out.cell 11
  rcases he with ⟨hr, ga, c1, rfl, hs⟩ | ⟨her, rfl⟩
  case inr =>
    clear her
    go_wp2
    go_ret
    exact ⟨rfl, HY.out⟩
  by_cases h0 : bt = 0
  · subst h0
    clear hs
    generalize (msgB x).length = n at *
    go_wp2
    go_ret
    exact ⟨rfl, HY.out⟩
  · have HBT : Hid (bt ≠ 0) := h0
    have hbn : ¬ ((bt.toNat : Int) = 0) := fun e => h0 (by
      have h3 : bt.toNat = 0 := by omega
      exact UInt8.toNat_inj.1 h3)
    have hbe : ((bt.toNat : Int) == 0) = false := by simp only [beq_eq_false_iff_ne, ne_eq]; exact hbn
    clear h0 hbn
    have HRT : Hid (RightM x) := hr
    have hpos := bytes_some x
    have hlen := msg_len hr HX.out.2.2.2.2.2.1.1
    obtain ⟨B, hB⟩ : ∃ y, y = msgB x := ⟨_, rfl⟩
    have HBB : Hid (B = msgB x) := hB
    rw [← hB] at hs hlen hpos ⊢
    have HS : Hid (Src w3 (.slice (some ⟨ga, 0, none⟩) B.length c1) B) := hs.src
    obtain ⟨n, hn⟩ : ∃ y, y = B.length := ⟨_, rfl⟩
    have HN : Hid (n = B.length) := hn
    rw [← hn] at HS hlen hpos ⊢
    clear hs hr hB hn
    have hcap : n ≤ c1 ∧ c1 ≤ 9223372036854775807 := by
      have h := HS.out.at
      unfold maxLen at h
      have := HN.out
      omega
    obtain ⟨J, hJ⟩ : ∃ J, J = I % n := ⟨_, rfl⟩
    have hJn : J < n := by rw [hJ]; exact Nat.mod_lt _ hpos
    have hrem : Int.tmod (I : Int) (n : Int) = (J : Int) := by rw [hJ]; rfl
    have hn0 : ¬ ((n : Int) = 0) := by omega
    have hand := HIA.out.2
    have hI := HIA.out.1
    clear hJ HIA
    have HW3 : Hid (w.heap.size < w3.heap.size) := HB.out.lt
    -- a copy
    go_upto_region 7 with fail
    have HO : Hid (Own (w3.alloc (.cells #[] 5)) w3.heap.size (.slice (some ⟨w3.heap.size, 0, none⟩) 0 0) []) := World.ownsRow_made w3 #[] 0 (Nat.le_refl _) (Nat.zero_le _) rfl
    have HS3 : Hid (Src (w3.alloc (.cells #[] 5)) (.slice (some ⟨ga, 0, none⟩) n c1) B) := HS.out.below (below_allocR _)
    have HSZ : Hid (w3.heap.size ≤ (w3.alloc (.cells #[] 5)).heap.size) := by show _ ≤ _; simp
    have HXA : Hid (Below w3.heap.size w3 (w3.alloc (.cells #[] 5))) := below_allocR _
    go_wp2_with (at_builtin; refine wpList_join (w3.alloc (.cells #[] 5)) rfl _ _ rfl w3.heap.size _ [] B HO.out rfl _ HS3.out rfl (by have := HN.out; simp; omega) HSZ.out ?_)
    intro v4 w4 ho hg _
    have HO4 : Hid (Own w4 w3.heap.size v4 B) := ho
    have y : Below w3.heap.size w3 w4 := HXA.out.grown hg HSZ.out (fun k hk => by cases hk; exact Nat.le_refl _)
    have HYS : Hid (Below w3.heap.size w3 w4) := y
    clear ho hg HO HS3 HSZ HXA
    have HB' : Hid (Blk w4 w.heap.size #[.int .i64 x.kind, .int .i64 x.frm, .int .i64 x.dst, .int .u64 x.num, .int .i64 x.node, .int .u64 x.life, .int .i64 x.n, .int .i64 x.op, .string x.key, .string x.val, .bool x.has, .int .i64 x.code] 27) := Blk.of HB.out (y.block _ HB.out.lt)
    have HY' : Hid (Below w.heap.size w w4) := ext_trans HY.out y
    clear HB HY y z0 z1 z2 z3 z4 z5 z6 z7 z8 z9 z10 z11
    have HB := HB'
    have HY := HY'
    clear HB' HY'
    have z0 : w4.cell? ⟨w.heap.size, 0, none⟩ = some (.int .i64 x.kind) := HB.out.cell 0
    have z1 : w4.cell? ⟨w.heap.size, 1, none⟩ = some (.int .i64 x.frm) := HB.out.cell 1
    have z2 : w4.cell? ⟨w.heap.size, 2, none⟩ = some (.int .i64 x.dst) := HB.out.cell 2
    have z3 : w4.cell? ⟨w.heap.size, 3, none⟩ = some (.int .u64 x.num) := HB.out.cell 3
    have z4 : w4.cell? ⟨w.heap.size, 4, none⟩ = some (.int .i64 x.node) := HB.out.cell 4
    have z5 : w4.cell? ⟨w.heap.size, 5, none⟩ = some (.int .u64 x.life) := HB.out.cell 5
    have z6 : w4.cell? ⟨w.heap.size, 6, none⟩ = some (.int .i64 x.n) := HB.out.cell 6
    have z7 : w4.cell? ⟨w.heap.size, 7, none⟩ = some (.int .i64 x.op) := HB.out.cell 7
    have z8 : w4.cell? ⟨w.heap.size, 8, none⟩ = some (.string x.key) := HB.out.cell 8
    have z9 : w4.cell? ⟨w.heap.size, 9, none⟩ = some (.string x.val) := HB.out.cell 9
    have z10 : w4.cell? ⟨w.heap.size, 10, none⟩ = some (.bool x.has) := HB.out.cell 10
    have z11 : w4.cell? ⟨w.heap.size, 11, none⟩ = some (.int .i64 x.code) := HB.out.cell 11
    have hJB : J < B.length := by rw [← HN.out]; exact hJn
    obtain ⟨g, cap, rfl, hgb, hgl, hcell, hfz, hset⟩ := own_turn HO4.out hJB
    obtain ⟨nb, hnb, hxor⟩ := xor_other B[J] bt HBT.out
    have HCH : Hid (B.set J nb ≠ B) := set_ne hJB hnb
    obtain ⟨ob, hob⟩ : ∃ ob, ob = B[J] := ⟨_, rfl⟩
    rw [← hob] at hcell hxor hnb
    clear hob
    obtain ⟨bl, hbl⟩ : ∃ y, y = B.length := ⟨_, rfl⟩
    have HS5 : Hid (Src (w4.setCell ⟨g, J, none⟩ (.int .u8 (nb.toNat : Int))) (.slice (some ⟨g, 0, none⟩) bl cap) (B.set J nb)) := by rw [hbl]; exact hset nb
    have HBL : Hid (bl = B.length) := hbl
    rw [← hbl] at HO4 hJB ⊢
    clear hbl
    have HS6 : Hid (Src (w4.setCell ⟨g, J, none⟩ (.int .u8 (nb.toNat : Int))) (.slice (some ⟨ga, 0, none⟩) n c1) B) := HS.out.below (HYS.out.setCell hgb _)
    have HGW : Hid (w.heap.size < g) := by
      have h3 := HS.out
      have h4 : w.heap.size < w3.heap.size := HW3.out
      show _ < _
      omega
    have HB5 : Hid (Blk (w4.setCell ⟨g, J, none⟩ (.int .u8 (nb.toNat : Int))) w.heap.size #[.int .i64 x.kind, .int .i64 x.frm, .int .i64 x.dst, .int .u64 x.num, .int .i64 x.node, .int .u64 x.life, .int .i64 x.n, .int .i64 x.op, .string x.key, .string x.val, .bool x.has, .int .i64 x.code] 27) := HB.out.setOther _ _ (by have := HGW.out; omega)
    have HY5 : Hid (Below w.heap.size w (w4.setCell ⟨g, J, none⟩ (.int .u8 (nb.toNat : Int)))) := HY.out.setCell (by have := HGW.out; simp only; omega) _
    have HCAP : Hid ((n ≤ c1 ∧ c1 ≤ 9223372036854775807) ∧ 0 < n ∧ n ≤ 150) := ⟨hcap, hpos, hlen⟩
    clear HO4 hset HB HY z0 z1 z2 z3 z4 z5 z6 z7 z8 z9 z10 z11 HYS
    go_upto_region 9 with fail
    clear hand hrem hn0 hI hcap hpos hlen
    generalize w4.setCell ⟨g, J, none⟩ (.int .u8 (nb.toNat : Int)) = w5 at *
    have HCL : Hid ((B.set J nb).length < 900000000000) := by
      show _ < _
      rw [List.length_set, ← HN.out]
      have := HCAP.out
      omega
    generalize B.set J nb = C at *
    have HB := HB5
    have HY := HY5
    clear HB5 HY5 hcell hfz hxor hnb hgb hgl HS hJB hJn HGW HW3
    go_wp2_with fail
    refine (decodeM_any _ _ _ C w5 HS5.out HCL.out).mono ?_
    rintro e w6 hd
    obtain ⟨z, er1, rfl, y, hd1⟩ := decM_one hd
    have HD1 : Hid ((er1 = 0 ∧ z.Wf ∧ RightM z ∧ msgB z = C) ∨ er1 = 11) := hd1
    have HS7 : Hid (Src w6 (.slice (some ⟨ga, 0, none⟩) n c1) B) := HS6.out.below y
    have HB6 : Hid (Blk w6 w.heap.size #[.int .i64 x.kind, .int .i64 x.frm, .int .i64 x.dst, .int .u64 x.num, .int .i64 x.node, .int .u64 x.life, .int .i64 x.n, .int .i64 x.op, .string x.key, .string x.val, .bool x.has, .int .i64 x.code] 27) := Blk.of HB.out (y.block _ HB.out.lt)
    have HY6 : Hid (Below w.heap.size w w6) := ext_trans HY.out y
    clear hd hd1 y HB HY HS5 HS6 HCL
    obtain ⟨w7, hw7⟩ : ∃ y, y = w6.alloc (.cells #[.int .i64 z.kind, .int .i64 z.frm, .int .i64 z.dst, .int .u64 z.num, .int .i64 z.node, .int .u64 z.life, .int .i64 z.n, .int .i64 z.op, .string z.key, .string z.val, .bool z.has, .int .i64 z.code] 27) := ⟨_, rfl⟩
    have y : Below w6.heap.size w6 w7 := by rw [hw7]; exact below_allocR _
    have HZB : Hid (Blk w7 w6.heap.size #[.int .i64 z.kind, .int .i64 z.frm, .int .i64 z.dst, .int .u64 z.num, .int .i64 z.node, .int .u64 z.life, .int .i64 z.n, .int .i64 z.op, .string z.key, .string z.val, .bool z.has, .int .i64 z.code] 27) := by rw [hw7]; exact Blk.new _ _ _
    have HB7 : Hid (Blk w7 w.heap.size #[.int .i64 x.kind, .int .i64 x.frm, .int .i64 x.dst, .int .u64 x.num, .int .i64 x.node, .int .u64 x.life, .int .i64 x.n, .int .i64 x.op, .string x.key, .string x.val, .bool x.has, .int .i64 x.code] 27) := Blk.of HB6.out (y.block _ HB6.out.lt)
    have HY7 : Hid (Below w.heap.size w w7) := ext_trans HY6.out y
    have HS8 : Hid (Src w7 (.slice (some ⟨ga, 0, none⟩) n c1) B) := HS7.out.below y
    clear y
    go_upto_region 10 with fail
    rw [← hw7]
    clear hw7 HB6 HY6 HS7
    generalize w6.heap.size = zb at *
    -- a byte more
    have HO : Hid (Own (w7.alloc (.cells #[] 5)) w7.heap.size (.slice (some ⟨w7.heap.size, 0, none⟩) 0 0) []) := World.ownsRow_made w7 #[] 0 (Nat.le_refl _) (Nat.zero_le _) rfl
    have HS9 : Hid (Src (w7.alloc (.cells #[] 5)) (.slice (some ⟨ga, 0, none⟩) n c1) B) := HS8.out.below (below_allocR _)
    have HSZ : Hid (w7.heap.size ≤ (w7.alloc (.cells #[] 5)).heap.size) := by show _ ≤ _; simp
    have HXA : Hid (Below w7.heap.size w7 (w7.alloc (.cells #[] 5))) := below_allocR _
    go_wp2_with (at_builtin; refine wpList_join (w7.alloc (.cells #[] 5)) rfl _ _ rfl w7.heap.size _ [] B HO.out rfl _ HS9.out rfl (by have := HN.out; have := HCAP.out; simp; omega) HSZ.out ?_)
    intro v8 w8 ho hg _
    have HO8 : Hid (Own w8 w7.heap.size v8 B) := ho
    have HY8 : Hid (Below w7.heap.size w7 w8) := HXA.out.grown hg HSZ.out (fun k hk => by cases hk; exact Nat.le_refl _)
    clear ho hg HO HS9 HSZ HXA
    have HO : Hid (Own (w8.alloc (.cells #[.int .u8 0] 5)) w7.heap.size v8 B) := HO8.out.below (below_allocR _)
    have HS9 : Hid (Src (w8.alloc (.cells #[.int .u8 0] 5)) (.slice (some ⟨w8.heap.size, 0, none⟩) 1 1) [0]) := Blk.src (l := [0]) (k := 1) (c := 1) (Blk.new _ _ _) (by decide) (by decide) (by unfold maxLen; omega)
    have HSZ : Hid (w7.heap.size ≤ (w8.alloc (.cells #[.int .u8 0] 5)).heap.size) := by have := HY8.out.size; show _ ≤ _; simp; omega
    have HXA : Hid (Below w7.heap.size w7 (w8.alloc (.cells #[.int .u8 0] 5))) := HY8.out.alloc HY8.out.size _
    go_wp2_with (at_builtin; refine wpList_join (w8.alloc (.cells #[.int .u8 0] 5)) rfl _ _ rfl w7.heap.size _ B [0] HO.out rfl _ HS9.out rfl (by have := HN.out; have := HCAP.out; simp; omega) HSZ.out ?_)
    intro v9 w9 ho hg _
    have HO9 : Hid (Own w9 w7.heap.size v9 (B ++ [0])) := ho
    have HY9 : Hid (Below w7.heap.size w7 w9) := HXA.out.grown hg HSZ.out (fun k hk => (World.ownsRow.lt HO.out k hk).1)
    clear ho hg HO HS9 HSZ HXA HO8 HY8
    obtain ⟨a9, n9, c9, hv9⟩ : ∃ a n c, v9 = .slice a n c := by obtain ⟨a, c, h, _⟩ := HO9.out.src; exact ⟨a, _, c, h⟩
    subst hv9
    go_wp2_with fail
    refine (decodeM_any _ _ _ (B ++ [0]) w9 HO9.out.src (by have := HN.out; have := HCAP.out; simp; omega)).mono ?_
    rintro e w10 hd
    obtain ⟨z2, er2, rfl, y, hd2⟩ := decM_one hd
    have hE2 : er2 = 11 := by
      rcases hd2 with ⟨_, h1, h2, h3⟩ | h
      · exfalso
        rw [HBB.out] at h3
        have := (msg_apart h2 h1.2.2.2.1.1 h1.2.2.2.2.2.1.1 HRT.out HX.out.2.2.2.1.1 HX.out.2.2.2.2.2.1.1 h3).2
        cases this
      · exact h
    subst hE2
    have y7 : Below w7.heap.size w7 (w10.alloc (.cells #[.int .i64 z2.kind, .int .i64 z2.frm, .int .i64 z2.dst, .int .u64 z2.num, .int .i64 z2.node, .int .u64 z2.life, .int .i64 z2.n, .int .i64 z2.op, .string z2.key, .string z2.val, .bool z2.has, .int .i64 z2.code] 27)) := (HY9.out.trans (Below.mono y HY9.out.size)).alloc (Nat.le_trans HY9.out.size y.size) _
    have HZB10 : Hid (Blk (w10.alloc (.cells #[.int .i64 z2.kind, .int .i64 z2.frm, .int .i64 z2.dst, .int .u64 z2.num, .int .i64 z2.node, .int .u64 z2.life, .int .i64 z2.n, .int .i64 z2.op, .string z2.key, .string z2.val, .bool z2.has, .int .i64 z2.code] 27)) zb #[.int .i64 z.kind, .int .i64 z.frm, .int .i64 z.dst, .int .u64 z.num, .int .i64 z.node, .int .u64 z.life, .int .i64 z.n, .int .i64 z.op, .string z.key, .string z.val, .bool z.has, .int .i64 z.code] 27) := Blk.of HZB.out (y7.block _ HZB.out.lt)
    have HB10 : Hid (Blk (w10.alloc (.cells #[.int .i64 z2.kind, .int .i64 z2.frm, .int .i64 z2.dst, .int .u64 z2.num, .int .i64 z2.node, .int .u64 z2.life, .int .i64 z2.n, .int .i64 z2.op, .string z2.key, .string z2.val, .bool z2.has, .int .i64 z2.code] 27)) w.heap.size #[.int .i64 x.kind, .int .i64 x.frm, .int .i64 x.dst, .int .u64 x.num, .int .i64 x.node, .int .u64 x.life, .int .i64 x.n, .int .i64 x.op, .string x.key, .string x.val, .bool x.has, .int .i64 x.code] 27) := Blk.of HB7.out (y7.block _ HB7.out.lt)
    have HY10 : Hid (Below w.heap.size w (w10.alloc (.cells #[.int .i64 z2.kind, .int .i64 z2.frm, .int .i64 z2.dst, .int .u64 z2.num, .int .i64 z2.node, .int .u64 z2.life, .int .i64 z2.n, .int .i64 z2.op, .string z2.key, .string z2.val, .bool z2.has, .int .i64 z2.code] 27))) := ext_trans HY7.out y7
    have HS10 : Hid (Src (w10.alloc (.cells #[.int .i64 z2.kind, .int .i64 z2.frm, .int .i64 z2.dst, .int .u64 z2.num, .int .i64 z2.node, .int .u64 z2.life, .int .i64 z2.n, .int .i64 z2.op, .string z2.key, .string z2.val, .bool z2.has, .int .i64 z2.code] 27)) (.slice (some ⟨ga, 0, none⟩) n c1) B) := HS8.out.below y7
    clear hd y hd2 y7
    go_upto_region 11 with fail
    generalize w10.alloc (.cells #[.int .i64 z2.kind, .int .i64 z2.frm, .int .i64 z2.dst, .int .u64 z2.num, .int .i64 z2.node, .int .u64 z2.life, .int .i64 z2.n, .int .i64 z2.op, .string z2.key, .string z2.val, .bool z2.has, .int .i64 z2.code] 27) = w11 at *
    clear HZB HB7 HY7 HS8 HO9 HY9
    -- a byte less
    have hn1 : ((n : Int) - 1) = ((n - 1 : Nat) : Int) := by have := HCAP.out; omega
    have hnw : wrap64 ((n - 1 : Nat) : Int) = ((n - 1 : Nat) : Int) := by unfold wrap64; have := HCAP.out; omega
    have hn2 : n - 1 ≤ c1 := by have := HCAP.out; omega
    have hn3 : ¬ c1 < n - 1 := by omega
    have HSL : Hid (Src w11 (.slice (some ⟨ga, 0, none⟩) (n - 1) c1) (B.take (n - 1))) := src_take (n - 1) HS10.out.at.2.2.2 HS10.out.at.2.1 HS10.out.at.2.2.1 (by have := HN.out; omega)
    go_wp2_with fail
    refine (decodeM_any _ _ _ (B.take (n - 1)) w11 HSL.out (by have := HN.out; have := HCAP.out; rw [List.length_take]; omega)).mono ?_
    rintro e w12 hd
    obtain ⟨z3, er3, rfl, y, hd3⟩ := decM_one hd
    have hE3 : er3 = 11 := by
      rcases hd3 with ⟨_, h1, h2, h3⟩ | h
      · exfalso
        have h4 : msgB x = msgB z3 ++ B.drop (n - 1) := by rw [h3, List.take_append_drop, HBB.out]
        have h5 := (msg_apart HRT.out HX.out.2.2.2.1.1 HX.out.2.2.2.2.2.1.1 h2 h1.2.2.2.1.1 h1.2.2.2.2.2.1.1 h4).2
        have h6 := congrArg List.length h5
        have h7 := HN.out
        have h8 := HCAP.out
        rw [List.length_drop] at h6
        simp at h6
        omega
      · exact h
    subst hE3
    have y7 : Below w11.heap.size w11 (w12.alloc (.cells #[.int .i64 z3.kind, .int .i64 z3.frm, .int .i64 z3.dst, .int .u64 z3.num, .int .i64 z3.node, .int .u64 z3.life, .int .i64 z3.n, .int .i64 z3.op, .string z3.key, .string z3.val, .bool z3.has, .int .i64 z3.code] 27)) := y.alloc y.size _
    have HZB13 : Hid (Blk (w12.alloc (.cells #[.int .i64 z3.kind, .int .i64 z3.frm, .int .i64 z3.dst, .int .u64 z3.num, .int .i64 z3.node, .int .u64 z3.life, .int .i64 z3.n, .int .i64 z3.op, .string z3.key, .string z3.val, .bool z3.has, .int .i64 z3.code] 27)) zb #[.int .i64 z.kind, .int .i64 z.frm, .int .i64 z.dst, .int .u64 z.num, .int .i64 z.node, .int .u64 z.life, .int .i64 z.n, .int .i64 z.op, .string z.key, .string z.val, .bool z.has, .int .i64 z.code] 27) := Blk.of HZB10.out (y7.block _ HZB10.out.lt)
    have HB13 : Hid (Blk (w12.alloc (.cells #[.int .i64 z3.kind, .int .i64 z3.frm, .int .i64 z3.dst, .int .u64 z3.num, .int .i64 z3.node, .int .u64 z3.life, .int .i64 z3.n, .int .i64 z3.op, .string z3.key, .string z3.val, .bool z3.has, .int .i64 z3.code] 27)) w.heap.size #[.int .i64 x.kind, .int .i64 x.frm, .int .i64 x.dst, .int .u64 x.num, .int .i64 x.node, .int .u64 x.life, .int .i64 x.n, .int .i64 x.op, .string x.key, .string x.val, .bool x.has, .int .i64 x.code] 27) := Blk.of HB10.out (y7.block _ HB10.out.lt)
    have HY13 : Hid (Below w.heap.size w (w12.alloc (.cells #[.int .i64 z3.kind, .int .i64 z3.frm, .int .i64 z3.dst, .int .u64 z3.num, .int .i64 z3.node, .int .u64 z3.life, .int .i64 z3.n, .int .i64 z3.op, .string z3.key, .string z3.val, .bool z3.has, .int .i64 z3.code] 27))) := ext_trans HY10.out y7
    clear hd y hd3 y7
    go_upto_region 12 with fail
    generalize w12.alloc (.cells #[.int .i64 z3.kind, .int .i64 z3.frm, .int .i64 z3.dst, .int .u64 z3.num, .int .i64 z3.node, .int .u64 z3.life, .int .i64 z3.n, .int .i64 z3.op, .string z3.key, .string z3.val, .bool z3.has, .int .i64 z3.code] 27) = w13 at *
    clear HZB10 HB10 HY10 HS10 HSL hn1 hn2 hn3 hnw
    rcases HD1.out with ⟨rfl, hw, hr, hb⟩ | rfl
    · have HC : Hid (z ≠ x) := fun e => HCH.out (by rw [HBB.out, ← hb, e])
      clear hw hr hb
      have z0 : w13.cell? ⟨w.heap.size, 0, none⟩ = some (.int .i64 x.kind) := HB13.out.cell 0
      have z1 : w13.cell? ⟨w.heap.size, 1, none⟩ = some (.int .i64 x.frm) := HB13.out.cell 1
      have z2 : w13.cell? ⟨w.heap.size, 2, none⟩ = some (.int .i64 x.dst) := HB13.out.cell 2
      have z3 : w13.cell? ⟨w.heap.size, 3, none⟩ = some (.int .u64 x.num) := HB13.out.cell 3
      have z4 : w13.cell? ⟨w.heap.size, 4, none⟩ = some (.int .i64 x.node) := HB13.out.cell 4
      have z5 : w13.cell? ⟨w.heap.size, 5, none⟩ = some (.int .u64 x.life) := HB13.out.cell 5
      have z6 : w13.cell? ⟨w.heap.size, 6, none⟩ = some (.int .i64 x.n) := HB13.out.cell 6
      have z7 : w13.cell? ⟨w.heap.size, 7, none⟩ = some (.int .i64 x.op) := HB13.out.cell 7
      have z8 : w13.cell? ⟨w.heap.size, 8, none⟩ = some (.string x.key) := HB13.out.cell 8
      have z9 : w13.cell? ⟨w.heap.size, 9, none⟩ = some (.string x.val) := HB13.out.cell 9
      have z10 : w13.cell? ⟨w.heap.size, 10, none⟩ = some (.bool x.has) := HB13.out.cell 10
      have z11 : w13.cell? ⟨w.heap.size, 11, none⟩ = some (.int .i64 x.code) := HB13.out.cell 11
      have q0 : w13.cell? ⟨zb, 0, none⟩ = some (.int .i64 z.kind) := HZB13.out.cell 0
      have q1 : w13.cell? ⟨zb, 1, none⟩ = some (.int .i64 z.frm) := HZB13.out.cell 1
      have q2 : w13.cell? ⟨zb, 2, none⟩ = some (.int .i64 z.dst) := HZB13.out.cell 2
      have q3 : w13.cell? ⟨zb, 3, none⟩ = some (.int .u64 z.num) := HZB13.out.cell 3
      have q4 : w13.cell? ⟨zb, 4, none⟩ = some (.int .i64 z.node) := HZB13.out.cell 4
      have q5 : w13.cell? ⟨zb, 5, none⟩ = some (.int .u64 z.life) := HZB13.out.cell 5
      have q6 : w13.cell? ⟨zb, 6, none⟩ = some (.int .i64 z.n) := HZB13.out.cell 6
      have q7 : w13.cell? ⟨zb, 7, none⟩ = some (.int .i64 z.op) := HZB13.out.cell 7
      have q8 : w13.cell? ⟨zb, 8, none⟩ = some (.string z.key) := HZB13.out.cell 8
      have q9 : w13.cell? ⟨zb, 9, none⟩ = some (.string z.val) := HZB13.out.cell 9
      have q10 : w13.cell? ⟨zb, 10, none⟩ = some (.bool z.has) := HZB13.out.cell 10
      have q11 : w13.cell? ⟨zb, 11, none⟩ = some (.int .i64 z.code) := HZB13.out.cell 11
      go_wp2
      all_goals first
        | (go_ret; exact ⟨rfl, HY13.out⟩)
        | exact absurd ((msgEq_iff z x).1 (by unfold msgEq; simp [*])) HC.out
    · go_wp2
      go_ret
      exact ⟨rfl, HY13.out⟩
end Go.Proofs.Ytefmeeffkjendaa

/- RecTurns: the walk of the law's Go text. -/
import Derived.Test.YthkmohcdgnldgaaGreatG2
import Derived.Test.YthkmohcdgnldgaaGreatRec14
set_option linter.unusedSimpArgs false
set_option linter.unusedVariables false
namespace Go.Proofs.YthkmohcdgnldgaaGreat
open Go.ChangeShapes Go.WideShapes Go.ChangeAt Go.RowKit

theorem and_leT (a : Int) (m : Nat) (hm : m < 9223372036854775808) : ∃ i : Nat, i ≤ m ∧ bits .and .i64 a (m : Int) = (i : Int) := by
  refine ⟨(BitVec.ofInt 64 a &&& BitVec.ofInt 64 (m : Int)).toNat, ?_, ?_⟩
  · rw [BitVec.toNat_and]
    refine Nat.le_trans Nat.and_le_right ?_
    rw [BitVec.ofInt_natCast, BitVec.toNat_ofNat]
    exact Nat.mod_le _ _
  · have hle : (BitVec.ofInt 64 a &&& BitVec.ofInt 64 (m : Int)).toNat ≤ m := by
      rw [BitVec.toNat_and]
      refine Nat.le_trans Nat.and_le_right ?_
      rw [BitVec.ofInt_natCast, BitVec.toNat_ofNat]
      exact Nat.mod_le _ _
    show IntKind.i64.wrap ((BitVec.ofInt 64 a &&& BitVec.ofInt 64 (m : Int)).toNat : Int) = _
    rw [IntKind.wrap_i64]
    omega
/-- A byte with other bits is another byte. -/
theorem xor_other (a b : UInt8) (hb : b ≠ 0) : ∃ c : UInt8, c ≠ a ∧ bits .xor .u8 (a.toNat : Int) (b.toNat : Int) = (c.toNat : Int) := by
  refine ⟨a ^^^ b, fun e => hb ?_, ?_⟩
  · have h1 : a ^^^ (a ^^^ b) = a ^^^ a := by rw [e]
    rw [← UInt8.xor_assoc, UInt8.xor_self, UInt8.zero_xor] at h1
    exact h1
  · have h1 : (a ^^^ b).toNat = a.toNat ^^^ b.toNat := UInt8.toNat_xor a b
    have h2 : (BitVec.ofInt 8 (a.toNat : Int) ^^^ BitVec.ofInt 8 (b.toNat : Int)).toNat = a.toNat ^^^ b.toNat := by
      rw [BitVec.toNat_xor, BitVec.ofInt_natCast, BitVec.ofInt_natCast, BitVec.toNat_ofNat, BitVec.toNat_ofNat, Nat.mod_eq_of_lt a.toNat_lt, Nat.mod_eq_of_lt b.toNat_lt]
    have h3 := (a ^^^ b).toNat_lt
    show IntKind.u8.wrap ((BitVec.ofInt 8 (a.toNat : Int) ^^^ BitVec.ofInt 8 (b.toNat : Int)).toNat : Int) = _
    rw [h2, ← h1, IntKind.wrap_u8]
    omega
theorem set_ne {l : List UInt8} {i : Nat} (h : i < l.length) {c : UInt8} (hc : c ≠ l[i]) : l.set i c ≠ l := fun e => hc (by
  have := congrArg (fun t => t[i]?) e
  simpa [h] using this)
/-- A row of bytes of the call's own, with one byte turned. -/
theorem own_turn {W : World} {B : Nat} {v : Value} {l : List UInt8} {i : Nat} (h : Own W B v l) (hi : i < l.length) :
    ∃ g cap, v = .slice (some ⟨g, 0, none⟩) l.length cap ∧ B ≤ g ∧ g < W.heap.size ∧ W.cell? ⟨g, i, none⟩ = some (.int .u8 (l[i].toNat : Int)) ∧ W.frozen? ⟨g, i, none⟩ = false ∧ ∀ c : UInt8, Src (W.setCell ⟨g, i, none⟩ (.int .u8 (c.toNat : Int))) v (l.set i c) := by
  have hs := h.src
  rcases h.2 with ⟨_, hn⟩ | ⟨g, cap, cur, rfl, hb, hg, hnc, hcm, hcs, ht⟩
  · omega
  · have hG : Blk W g cur 5 := hg
    have hcell := h.cells rfl i (.int .u8 (l[i].toNat : Int)) (by simp [bv, hi])
    rw [show (⟨g, 0, none⟩ : Addr).add i = ⟨g, i, none⟩ by by_cases h0 : i = 0 <;> simp [Addr.add, h0]] at hcell
    refine ⟨g, cap, rfl, hb, hG.lt, hcell, hG.frozen i, fun c => ⟨some ⟨g, 0, none⟩, cap, by rw [List.length_set], by rw [List.length_set]; exact hnc, hcm, fun e => (by cases e), fun ad had j u hu => ?_⟩⟩
    cases had
    have hG2 := hG.set i (.int .u8 (c.toNat : Int))
    rw [show (⟨g, 0, none⟩ : Addr).add j = ⟨g, j, none⟩ by by_cases h0 : j = 0 <;> simp [Addr.add, h0], hG2.cell]
    have hj : j < l.length := by
      have := (List.getElem?_eq_some_iff.1 hu).1
      simpa [bv] using this
    have hcj := h.cells rfl j (.int .u8 (l[j].toNat : Int)) (by simp [bv, hj])
    rw [show (⟨g, 0, none⟩ : Addr).add j = ⟨g, j, none⟩ by by_cases h0 : j = 0 <;> simp [Addr.add, h0], hG.cell] at hcj
    have hjs : j < cur.size := (Array.getElem?_eq_some_iff.1 hcj).1
    by_cases e : i = j
    · subst e
      rw [← hu]
      simp [bv, hi, hjs]
    · rw [Array.getElem?_setIfInBounds_ne e, hcj, ← hu]
      simp [bv, hj, List.getElem_set_ne e]
def zeroV : RecV := ⟨0, 0, 0, ⟨#[]⟩, false, ⟨#[]⟩, 0, none, 0, 0, [], none, 0, 0, [], none, 0, 0, [], none, 0, 0, [], none, 0, 0, []⟩
theorem zeroV_at (W : World) : zeroV.At W := ⟨Nat.zero_le _, Nat.zero_le _, Rd.nil _, Rd.nil _, fun _ h => (by cases h), RowsN.nil _ _ _, fun _ h => (by cases h), RowsN.nil _ _ _, fun _ h => (by cases h), RowsN.nil _ _ _, fun _ h => (by cases h)⟩
/-- Decode's answer, in one form. -/
theorem decRP_one {l : List UInt8} {w w' : World} {e : Ending} (h : DecRP l w e w') : ∃ (z : RecV) (er : Int), e = .returned (.tuple #[.agg #[.int .i64 z.kind, .int .u64 z.num, .int .i64 z.node, .string z.key, .bool z.was, .string z.old, .int .u64 z.prev, .slice z.na z.nn z.nc, .slice z.ra z.rn z.rc, .slice z.ga z.gn z.gc, .slice z.oa z.om z.oc, .slice z.da z.dn z.dc], .int .i64 er]) ∧ z.At w' ∧ Below w.heap.size w w' ∧ ((er = 0 ∧ z.Wf ∧ rightRec z = true ∧ recBytes z = l) ∨ er = 11) := by
  obtain ⟨h, y⟩ := h
  rcases h with ⟨z, he, h1, h2, h3, h4, _, _⟩ | ⟨he, _⟩
  · exact ⟨z, 0, he, h1, y, .inl ⟨rfl, h2, h3, h4⟩⟩
  · exact ⟨zeroV, 11, he, zeroV_at _, y, .inr rfl⟩
theorem bytes_some (x : RecV) : 0 < (recBytes x).length := by
  unfold recBytes encHead
  have := enc_ne x.kind.toNat
  have h : 0 < (enc x.kind.toNat).length := List.length_pos_iff.2 this
  simp only [List.length_append]
  omega

set_option maxRecDepth 100000 in
set_option maxHeartbeats 8000000 in
theorem walk_RecTurns (x : RecV) (at0 bts : Int) (w : World) (hx : x.At w) (wx : x.Wf) (h1 : (Lit.int .i64 at0).wf = true) (h2 : (Lit.int .u8 bts).wf = true) : Calls Tryz.prog 5 #[.agg #[.int .i64 x.kind, .int .u64 x.num, .int .i64 x.node, .string x.key, .bool x.was, .string x.old, .int .u64 x.prev, .slice x.na x.nn x.nc, .slice x.ra x.rn x.rc, .slice x.ga x.gn x.gc, .slice x.oa x.om x.oc, .slice x.da x.dn x.dc], .int .i64 at0, .int .u8 bts] w fun e w' => e = .returned (.bool true) ∧ Below w.heap.size w w' := by
  have hb8 := bounds_u8 h2
  obtain ⟨bt, hbt⟩ : ∃ b : UInt8, bts = (b.toNat : Int) := ⟨UInt8.ofNat bts.toNat, by rw [UInt8.toNat_ofNat']; omega⟩
  subst hbt
  clear hb8 h2 h1
  obtain ⟨I, hI, hand⟩ := and_leT at0 65535 (by omega)
  have HX : Hid (x.At w ∧ x.Wf) := ⟨hx, wx⟩
  have hcast : ((65535 : Nat) : Int) = 65535 := rfl
  rw [hcast] at hand
  clear hx wx hcast
  have HB : Hid (Blk (w.alloc (.cells #[.int .i64 x.kind, .int .u64 x.num, .int .i64 x.node, .string x.key, .bool x.was, .string x.old, .int .u64 x.prev, .slice x.na x.nn x.nc, .slice x.ra x.rn x.rc, .slice x.ga x.gn x.gc, .slice x.oa x.om x.oc, .slice x.da x.dn x.dc] 31)) w.heap.size #[.int .i64 x.kind, .int .u64 x.num, .int .i64 x.node, .string x.key, .bool x.was, .string x.old, .int .u64 x.prev, .slice x.na x.nn x.nc, .slice x.ra x.rn x.rc, .slice x.ga x.gn x.gc, .slice x.oa x.om x.oc, .slice x.da x.dn x.dc] 31) := Blk.new _ _ _
  have HY : Hid (Below w.heap.size w (w.alloc (.cells #[.int .i64 x.kind, .int .u64 x.num, .int .i64 x.node, .string x.key, .bool x.was, .string x.old, .int .u64 x.prev, .slice x.na x.nn x.nc, .slice x.ra x.rn x.rc, .slice x.ga x.gn x.gc, .slice x.oa x.om x.oc, .slice x.da x.dn x.dc] 31))) := (Below.refl _ _).alloc (Nat.le_refl _) _
  go_enter Tryz.func5, Tryz.ntmps5
  go_upto_region 1 with fail
  generalize w.alloc (.cells #[.int .i64 x.kind, .int .u64 x.num, .int .i64 x.node, .string x.key, .bool x.was, .string x.old, .int .u64 x.prev, .slice x.na x.nn x.nc, .slice x.ra x.rn x.rc, .slice x.ga x.gn x.gc, .slice x.oa x.om x.oc, .slice x.da x.dn x.dc] 31) = w0 at *
  go_wp2_with fail
  refine (head11_any _).mono ?_
  rintro e w1 ⟨rfl, y⟩
  have HB' : Hid (Blk w1 w.heap.size #[.int .i64 x.kind, .int .u64 x.num, .int .i64 x.node, .string x.key, .bool x.was, .string x.old, .int .u64 x.prev, .slice x.na x.nn x.nc, .slice x.ra x.rn x.rc, .slice x.ga x.gn x.gc, .slice x.oa x.om x.oc, .slice x.da x.dn x.dc] 31) := Blk.of HB.out (y.block _ HB.out.lt)
  have HY' : Hid (Below w.heap.size w w1) := ext_trans HY.out y
  clear HB HY y
  have HB := HB'
  have HY := HY'
  clear HB' HY'
  have z0 : w1.cell? ⟨w.heap.size, 0, none⟩ = some (.int .i64 x.kind) := HB.out.cell 0
  have z1 : w1.cell? ⟨w.heap.size, 1, none⟩ = some (.int .u64 x.num) := HB.out.cell 1
  have z2 : w1.cell? ⟨w.heap.size, 2, none⟩ = some (.int .i64 x.node) := HB.out.cell 2
  have z3 : w1.cell? ⟨w.heap.size, 3, none⟩ = some (.string x.key) := HB.out.cell 3
  have z4 : w1.cell? ⟨w.heap.size, 4, none⟩ = some (.bool x.was) := HB.out.cell 4
  have z5 : w1.cell? ⟨w.heap.size, 5, none⟩ = some (.string x.old) := HB.out.cell 5
  have z6 : w1.cell? ⟨w.heap.size, 6, none⟩ = some (.int .u64 x.prev) := HB.out.cell 6
  have z7 : w1.cell? ⟨w.heap.size, 7, none⟩ = some (.slice x.na x.nn x.nc) := HB.out.cell 7
  have z8 : w1.cell? ⟨w.heap.size, 8, none⟩ = some (.slice x.ra x.rn x.rc) := HB.out.cell 8
  have z9 : w1.cell? ⟨w.heap.size, 9, none⟩ = some (.slice x.ga x.gn x.gc) := HB.out.cell 9
  have z10 : w1.cell? ⟨w.heap.size, 10, none⟩ = some (.slice x.oa x.om x.oc) := HB.out.cell 10
  have z11 : w1.cell? ⟨w.heap.size, 11, none⟩ = some (.slice x.da x.dn x.dc) := HB.out.cell 11
  go_wp2_with fail
  refine (small11_any x w1 (HX.out.1.below HY.out)).mono ?_
  rintro e w2 ⟨⟨b, rfl⟩, y⟩
  have HB' : Hid (Blk w2 w.heap.size #[.int .i64 x.kind, .int .u64 x.num, .int .i64 x.node, .string x.key, .bool x.was, .string x.old, .int .u64 x.prev, .slice x.na x.nn x.nc, .slice x.ra x.rn x.rc, .slice x.ga x.gn x.gc, .slice x.oa x.om x.oc, .slice x.da x.dn x.dc] 31) := Blk.of HB.out (y.block _ HB.out.lt)
  have HY' : Hid (Below w.heap.size w w2) := ext_trans HY.out y
  clear HB HY y z0 z1 z2 z3 z4 z5 z6 z7 z8 z9 z10 z11
  have HB := HB'
  have HY := HY'
  clear HB' HY'
  have z0 : w2.cell? ⟨w.heap.size, 0, none⟩ = some (.int .i64 x.kind) := HB.out.cell 0
  have z1 : w2.cell? ⟨w.heap.size, 1, none⟩ = some (.int .u64 x.num) := HB.out.cell 1
  have z2 : w2.cell? ⟨w.heap.size, 2, none⟩ = some (.int .i64 x.node) := HB.out.cell 2
  have z3 : w2.cell? ⟨w.heap.size, 3, none⟩ = some (.string x.key) := HB.out.cell 3
  have z4 : w2.cell? ⟨w.heap.size, 4, none⟩ = some (.bool x.was) := HB.out.cell 4
  have z5 : w2.cell? ⟨w.heap.size, 5, none⟩ = some (.string x.old) := HB.out.cell 5
  have z6 : w2.cell? ⟨w.heap.size, 6, none⟩ = some (.int .u64 x.prev) := HB.out.cell 6
  have z7 : w2.cell? ⟨w.heap.size, 7, none⟩ = some (.slice x.na x.nn x.nc) := HB.out.cell 7
  have z8 : w2.cell? ⟨w.heap.size, 8, none⟩ = some (.slice x.ra x.rn x.rc) := HB.out.cell 8
  have z9 : w2.cell? ⟨w.heap.size, 9, none⟩ = some (.slice x.ga x.gn x.gc) := HB.out.cell 9
  have z10 : w2.cell? ⟨w.heap.size, 10, none⟩ = some (.slice x.oa x.om x.oc) := HB.out.cell 10
  have z11 : w2.cell? ⟨w.heap.size, 11, none⟩ = some (.slice x.da x.dn x.dc) := HB.out.cell 11
  cases b with
  | false =>
    go_wp2
    go_ret
    exact ⟨rfl, HY.out⟩
  | true =>
    by_cases h0 : bt = 0
    · subst h0
      go_wp2
      go_ret
      exact ⟨rfl, HY.out⟩
    have HBT : Hid (bt ≠ 0) := h0
    have hbn : ¬ ((bt.toNat : Int) = 0) := fun e => h0 (by
      have h3 : bt.toNat = 0 := by omega
      exact UInt8.toNat_inj.1 h3)
    have hbe : ((bt.toNat : Int) == 0) = false := by simp only [beq_eq_false_iff_ne, ne_eq]; exact hbn
    have HBX : Hid (((bt.toNat : Int) == 0) = false) := hbe
    clear h0
    go_wp2_with fail
    refine (encQ_any x w2 (HX.out.1.below HY.out) HX.out.2).mono ?_
    rintro e w3 ⟨he, y⟩
    clear hbn hbe
    have HB' : Hid (Blk w3 w.heap.size #[.int .i64 x.kind, .int .u64 x.num, .int .i64 x.node, .string x.key, .bool x.was, .string x.old, .int .u64 x.prev, .slice x.na x.nn x.nc, .slice x.ra x.rn x.rc, .slice x.ga x.gn x.gc, .slice x.oa x.om x.oc, .slice x.da x.dn x.dc] 31) := Blk.of HB.out (y.block _ HB.out.lt)
    have HY' : Hid (Below w.heap.size w w3) := ext_trans HY.out y
    clear HB HY y z0 z1 z2 z3 z4 z5 z6 z7 z8 z9 z10 z11
    have HB := HB'
    have HY := HY'
    clear HB' HY'
    have z0 : w3.cell? ⟨w.heap.size, 0, none⟩ = some (.int .i64 x.kind) := HB.out.cell 0
    have z1 : w3.cell? ⟨w.heap.size, 1, none⟩ = some (.int .u64 x.num) := HB.out.cell 1
    have z2 : w3.cell? ⟨w.heap.size, 2, none⟩ = some (.int .i64 x.node) := HB.out.cell 2
    have z3 : w3.cell? ⟨w.heap.size, 3, none⟩ = some (.string x.key) := HB.out.cell 3
    have z4 : w3.cell? ⟨w.heap.size, 4, none⟩ = some (.bool x.was) := HB.out.cell 4
    have z5 : w3.cell? ⟨w.heap.size, 5, none⟩ = some (.string x.old) := HB.out.cell 5
    have z6 : w3.cell? ⟨w.heap.size, 6, none⟩ = some (.int .u64 x.prev) := HB.out.cell 6
    have z7 : w3.cell? ⟨w.heap.size, 7, none⟩ = some (.slice x.na x.nn x.nc) := HB.out.cell 7
    have z8 : w3.cell? ⟨w.heap.size, 8, none⟩ = some (.slice x.ra x.rn x.rc) := HB.out.cell 8
    have z9 : w3.cell? ⟨w.heap.size, 9, none⟩ = some (.slice x.ga x.gn x.gc) := HB.out.cell 9
    have z10 : w3.cell? ⟨w.heap.size, 10, none⟩ = some (.slice x.oa x.om x.oc) := HB.out.cell 10
    have z11 : w3.cell? ⟨w.heap.size, 11, none⟩ = some (.slice x.da x.dn x.dc) := HB.out.cell 11
    rcases he with ⟨hr, hlen, a1, c1, rfl, hs⟩ | ⟨er, rfl, her⟩
    case inr =>
      have hne : ¬ er = 0 := by rcases her with ⟨_, _, h⟩ | ⟨_, h⟩ <;> omega
      have hne2 : (er != 0) = true := by simp [hne]
      have hne3 : (er == 0) = false := by simp [hne]
      clear her hne
      go_wp2
      go_ret
      exact ⟨rfl, HY.out⟩
    have HRT : Hid (rightRec x = true) := hr
    have hpos := bytes_some x
    obtain ⟨B, hB⟩ : ∃ y, y = recBytes x := ⟨_, rfl⟩
    have HBB : Hid (B = recBytes x) := hB
    rw [← hB] at hs hlen hpos ⊢
    have HS : Hid (Src w3 (.slice a1 B.length c1) B) := hs
    obtain ⟨n, hn⟩ : ∃ y, y = B.length := ⟨_, rfl⟩
    have HN : Hid (n = B.length) := hn
    rw [← hn] at HS hlen hpos ⊢
    clear hs hr hB hn
    obtain ⟨ad, had⟩ : ∃ ad, a1 = some ad := by
      cases a1 with
      | some a => exact ⟨a, rfl⟩
      | none => have h := (HS.out.at.2.2.2.1 rfl).1; have := HN.out; rw [h] at this; simp at this; omega
    subst had
    have hcap : n ≤ c1 ∧ c1 ≤ 9223372036854775807 := by
      have h := HS.out.at
      unfold maxLen at h
      have := HN.out
      omega
    obtain ⟨J, hJ⟩ : ∃ J, J = I % n := ⟨_, rfl⟩
    have hJn : J < n := by rw [hJ]; exact Nat.mod_lt _ hpos
    have hrem : Int.tmod (I : Int) (n : Int) = (J : Int) := by rw [hJ]; rfl
    have hn0 : ¬ ((n : Int) = 0) := by omega
    clear hJ
    have HW3 : Hid (w.heap.size < w3.heap.size) := HB.out.lt
    -- a copy
    go_upto_region 9 with fail
    have HO : Hid (Own (w3.alloc (.cells #[] 5)) w3.heap.size (.slice (some ⟨w3.heap.size, 0, none⟩) 0 0) []) := World.ownsRow_made w3 #[] 0 (Nat.le_refl _) (Nat.zero_le _) rfl
    have HS3 : Hid (Src (w3.alloc (.cells #[] 5)) (.slice (some ad) n c1) B) := HS.out.below (below_allocR _)
    have HSZ : Hid (w3.heap.size ≤ (w3.alloc (.cells #[] 5)).heap.size) := by show _ ≤ _; simp
    have HXA : Hid (Below w3.heap.size w3 (w3.alloc (.cells #[] 5))) := below_allocR _
    go_wp2_with (at_builtin; refine wpList_join (w3.alloc (.cells #[] 5)) rfl _ _ rfl w3.heap.size _ [] B HO.out rfl _ HS3.out rfl (by have := HN.out; simp; omega) HSZ.out ?_)
    intro v4 w4 ho hg _
    have HO4 : Hid (Own w4 w3.heap.size v4 B) := ho
    have y : Below w3.heap.size w3 w4 := HXA.out.grown hg HSZ.out (fun k hk => by cases hk; exact Nat.le_refl _)
    have HYS : Hid (Below w3.heap.size w3 w4) := y
    clear ho hg HO HS3 HSZ HXA
    have HB' : Hid (Blk w4 w.heap.size #[.int .i64 x.kind, .int .u64 x.num, .int .i64 x.node, .string x.key, .bool x.was, .string x.old, .int .u64 x.prev, .slice x.na x.nn x.nc, .slice x.ra x.rn x.rc, .slice x.ga x.gn x.gc, .slice x.oa x.om x.oc, .slice x.da x.dn x.dc] 31) := Blk.of HB.out (y.block _ HB.out.lt)
    have HY' : Hid (Below w.heap.size w w4) := ext_trans HY.out y
    clear HB HY y z0 z1 z2 z3 z4 z5 z6 z7 z8 z9 z10 z11
    have HB := HB'
    have HY := HY'
    clear HB' HY'
    have z0 : w4.cell? ⟨w.heap.size, 0, none⟩ = some (.int .i64 x.kind) := HB.out.cell 0
    have z1 : w4.cell? ⟨w.heap.size, 1, none⟩ = some (.int .u64 x.num) := HB.out.cell 1
    have z2 : w4.cell? ⟨w.heap.size, 2, none⟩ = some (.int .i64 x.node) := HB.out.cell 2
    have z3 : w4.cell? ⟨w.heap.size, 3, none⟩ = some (.string x.key) := HB.out.cell 3
    have z4 : w4.cell? ⟨w.heap.size, 4, none⟩ = some (.bool x.was) := HB.out.cell 4
    have z5 : w4.cell? ⟨w.heap.size, 5, none⟩ = some (.string x.old) := HB.out.cell 5
    have z6 : w4.cell? ⟨w.heap.size, 6, none⟩ = some (.int .u64 x.prev) := HB.out.cell 6
    have z7 : w4.cell? ⟨w.heap.size, 7, none⟩ = some (.slice x.na x.nn x.nc) := HB.out.cell 7
    have z8 : w4.cell? ⟨w.heap.size, 8, none⟩ = some (.slice x.ra x.rn x.rc) := HB.out.cell 8
    have z9 : w4.cell? ⟨w.heap.size, 9, none⟩ = some (.slice x.ga x.gn x.gc) := HB.out.cell 9
    have z10 : w4.cell? ⟨w.heap.size, 10, none⟩ = some (.slice x.oa x.om x.oc) := HB.out.cell 10
    have z11 : w4.cell? ⟨w.heap.size, 11, none⟩ = some (.slice x.da x.dn x.dc) := HB.out.cell 11
    have hJB : J < B.length := by rw [← HN.out]; exact hJn
    obtain ⟨g, cap, rfl, hgb, hgl, hcell, hfz, hset⟩ := own_turn HO4.out hJB
    obtain ⟨nb, hnb, hxor⟩ := xor_other B[J] bt HBT.out
    have HCH : Hid (B.set J nb ≠ B) := set_ne hJB hnb
    obtain ⟨ob, hob⟩ : ∃ ob, ob = B[J] := ⟨_, rfl⟩
    rw [← hob] at hcell hxor hnb
    clear hob
    obtain ⟨bl, hbl⟩ : ∃ y, y = B.length := ⟨_, rfl⟩
    have HS5 : Hid (Src (w4.setCell ⟨g, J, none⟩ (.int .u8 (nb.toNat : Int))) (.slice (some ⟨g, 0, none⟩) bl cap) (B.set J nb)) := by rw [hbl]; exact hset nb
    have HBL : Hid (bl = B.length) := hbl
    rw [← hbl] at HO4 hJB ⊢
    clear hbl
    have HS6 : Hid (Src (w4.setCell ⟨g, J, none⟩ (.int .u8 (nb.toNat : Int))) (.slice (some ad) n c1) B) := HS.out.below (HYS.out.setCell hgb _)
    have HGW : Hid (w.heap.size < g) := by
      have h3 := HS.out
      have h4 : w.heap.size < w3.heap.size := HW3.out
      show _ < _
      omega
    have HB5 : Hid (Blk (w4.setCell ⟨g, J, none⟩ (.int .u8 (nb.toNat : Int))) w.heap.size #[.int .i64 x.kind, .int .u64 x.num, .int .i64 x.node, .string x.key, .bool x.was, .string x.old, .int .u64 x.prev, .slice x.na x.nn x.nc, .slice x.ra x.rn x.rc, .slice x.ga x.gn x.gc, .slice x.oa x.om x.oc, .slice x.da x.dn x.dc] 31) := HB.out.setOther _ _ (by have := HGW.out; omega)
    have HY5 : Hid (Below w.heap.size w (w4.setCell ⟨g, J, none⟩ (.int .u8 (nb.toNat : Int)))) := HY.out.setCell (by have := HGW.out; simp only; omega) _
    have HCAP : Hid ((n ≤ c1 ∧ c1 ≤ 9223372036854775807) ∧ 0 < n ∧ n ≤ 16384) := ⟨hcap, hpos, hlen⟩
    clear HO4 hset HB HY z0 z1 z2 z3 z4 z5 z6 z7 z8 z9 z10 z11 HYS
    go_upto_region 11 with fail
    clear hand hrem hn0 hI hcap hpos hlen
    generalize w4.setCell ⟨g, J, none⟩ (.int .u8 (nb.toNat : Int)) = w5 at *
    have HCL : Hid ((B.set J nb).length < 900000000000) := by
      show _ < _
      rw [List.length_set, ← HN.out]
      have := HCAP.out
      omega
    generalize B.set J nb = C at *
    have HB := HB5
    have HY := HY5
    clear HB5 HY5 hcell hfz hxor hnb hgb hgl HS hJB hJn HGW HW3
    go_wp2_with fail
    refine (recDecode_any _ C w5 HS5.out HCL.out).mono ?_
    rintro e w6 hd
    obtain ⟨z, er1, rfl, hz, y, hd1⟩ := decRP_one hd
    have HD1 : Hid ((er1 = 0 ∧ z.Wf ∧ rightRec z = true ∧ recBytes z = C) ∨ er1 = 11) := hd1
    have HS7 : Hid (Src w6 (.slice (some ad) n c1) B) := HS6.out.below y
    have HZ6 : Hid (z.At w6) := hz
    have HB6 : Hid (Blk w6 w.heap.size #[.int .i64 x.kind, .int .u64 x.num, .int .i64 x.node, .string x.key, .bool x.was, .string x.old, .int .u64 x.prev, .slice x.na x.nn x.nc, .slice x.ra x.rn x.rc, .slice x.ga x.gn x.gc, .slice x.oa x.om x.oc, .slice x.da x.dn x.dc] 31) := Blk.of HB.out (y.block _ HB.out.lt)
    have HY6 : Hid (Below w.heap.size w w6) := ext_trans HY.out y
    clear hd hd1 hz y HB HY HS5 HS6 HCL
    obtain ⟨w7, hw7⟩ : ∃ y, y = w6.alloc (.cells #[.int .i64 z.kind, .int .u64 z.num, .int .i64 z.node, .string z.key, .bool z.was, .string z.old, .int .u64 z.prev, .slice z.na z.nn z.nc, .slice z.ra z.rn z.rc, .slice z.ga z.gn z.gc, .slice z.oa z.om z.oc, .slice z.da z.dn z.dc] 31) := ⟨_, rfl⟩
    have y : Below w6.heap.size w6 w7 := by rw [hw7]; exact below_allocR _
    have HZB : Hid (Blk w7 w6.heap.size #[.int .i64 z.kind, .int .u64 z.num, .int .i64 z.node, .string z.key, .bool z.was, .string z.old, .int .u64 z.prev, .slice z.na z.nn z.nc, .slice z.ra z.rn z.rc, .slice z.ga z.gn z.gc, .slice z.oa z.om z.oc, .slice z.da z.dn z.dc] 31) := by rw [hw7]; exact Blk.new _ _ _
    have HZ7 : Hid (z.At w7) := HZ6.out.below y
    have HB7 : Hid (Blk w7 w.heap.size #[.int .i64 x.kind, .int .u64 x.num, .int .i64 x.node, .string x.key, .bool x.was, .string x.old, .int .u64 x.prev, .slice x.na x.nn x.nc, .slice x.ra x.rn x.rc, .slice x.ga x.gn x.gc, .slice x.oa x.om x.oc, .slice x.da x.dn x.dc] 31) := Blk.of HB6.out (y.block _ HB6.out.lt)
    have HY7 : Hid (Below w.heap.size w w7) := ext_trans HY6.out y
    have HS8 : Hid (Src w7 (.slice (some ad) n c1) B) := HS7.out.below y
    clear y
    go_upto_region 12 with fail
    rw [← hw7]
    clear hw7 HZ6 HB6 HY6 HS7
    generalize w6.heap.size = zb at *
    -- a byte more
    have HO : Hid (Own (w7.alloc (.cells #[] 5)) w7.heap.size (.slice (some ⟨w7.heap.size, 0, none⟩) 0 0) []) := World.ownsRow_made w7 #[] 0 (Nat.le_refl _) (Nat.zero_le _) rfl
    have HS9 : Hid (Src (w7.alloc (.cells #[] 5)) (.slice (some ad) n c1) B) := HS8.out.below (below_allocR _)
    have HSZ : Hid (w7.heap.size ≤ (w7.alloc (.cells #[] 5)).heap.size) := by show _ ≤ _; simp
    have HXA : Hid (Below w7.heap.size w7 (w7.alloc (.cells #[] 5))) := below_allocR _
    go_wp2_with (at_builtin; refine wpList_join (w7.alloc (.cells #[] 5)) rfl _ _ rfl w7.heap.size _ [] B HO.out rfl _ HS9.out rfl (by have := HN.out; have := HCAP.out; simp; omega) HSZ.out ?_)
    intro v8 w8 ho hg _
    have HO8 : Hid (Own w8 w7.heap.size v8 B) := ho
    have HY8 : Hid (Below w7.heap.size w7 w8) := HXA.out.grown hg HSZ.out (fun k hk => by cases hk; exact Nat.le_refl _)
    clear ho hg HO HS9 HSZ HXA
    have HO : Hid (Own (w8.alloc (.cells #[.int .u8 0] 5)) w7.heap.size v8 B) := HO8.out.below (below_allocR _)
    have HS9 : Hid (Src (w8.alloc (.cells #[.int .u8 0] 5)) (.slice (some ⟨w8.heap.size, 0, none⟩) 1 1) [0]) := Blk.src (l := [0]) (k := 1) (c := 1) (Blk.new _ _ _) (by decide) (by decide) (by unfold maxLen; omega)
    have HSZ : Hid (w7.heap.size ≤ (w8.alloc (.cells #[.int .u8 0] 5)).heap.size) := by have := HY8.out.size; show _ ≤ _; simp; omega
    have HXA : Hid (Below w7.heap.size w7 (w8.alloc (.cells #[.int .u8 0] 5))) := HY8.out.alloc HY8.out.size _
    go_wp2_with (at_builtin; refine wpList_join (w8.alloc (.cells #[.int .u8 0] 5)) rfl _ _ rfl w7.heap.size _ B [0] HO.out rfl _ HS9.out rfl (by have := HN.out; have := HCAP.out; simp; omega) HSZ.out ?_)
    intro v9 w9 ho hg _
    have HO9 : Hid (Own w9 w7.heap.size v9 (B ++ [0])) := ho
    have HY9 : Hid (Below w7.heap.size w7 w9) := HXA.out.grown hg HSZ.out (fun k hk => (World.ownsRow.lt HO.out k hk).1)
    clear ho hg HO HS9 HSZ HXA HO8 HY8
    go_wp2_with fail
    refine (recDecode_any _ (B ++ [0]) w9 HO9.out.src (by have := HN.out; have := HCAP.out; simp; omega)).mono ?_
    rintro e w10 hd
    obtain ⟨z2, er2, rfl, hz2, y, hd2⟩ := decRP_one hd
    have hE2 : er2 = 11 := by
      rcases hd2 with ⟨_, h1, h2, h3⟩ | h
      · exfalso
        rw [HBB.out] at h3
        have := (rec_apart h2 h1 HRT.out HX.out.2 h3).2
        cases this
      · exact h
    subst hE2
    have y7 : Below w7.heap.size w7 (w10.alloc (.cells #[.int .i64 z2.kind, .int .u64 z2.num, .int .i64 z2.node, .string z2.key, .bool z2.was, .string z2.old, .int .u64 z2.prev, .slice z2.na z2.nn z2.nc, .slice z2.ra z2.rn z2.rc, .slice z2.ga z2.gn z2.gc, .slice z2.oa z2.om z2.oc, .slice z2.da z2.dn z2.dc] 31)) := (HY9.out.trans (Below.mono y HY9.out.size)).alloc (Nat.le_trans HY9.out.size y.size) _
    have HZ10 : Hid (z.At (w10.alloc (.cells #[.int .i64 z2.kind, .int .u64 z2.num, .int .i64 z2.node, .string z2.key, .bool z2.was, .string z2.old, .int .u64 z2.prev, .slice z2.na z2.nn z2.nc, .slice z2.ra z2.rn z2.rc, .slice z2.ga z2.gn z2.gc, .slice z2.oa z2.om z2.oc, .slice z2.da z2.dn z2.dc] 31))) := HZ7.out.below y7
    have HZB10 : Hid (Blk (w10.alloc (.cells #[.int .i64 z2.kind, .int .u64 z2.num, .int .i64 z2.node, .string z2.key, .bool z2.was, .string z2.old, .int .u64 z2.prev, .slice z2.na z2.nn z2.nc, .slice z2.ra z2.rn z2.rc, .slice z2.ga z2.gn z2.gc, .slice z2.oa z2.om z2.oc, .slice z2.da z2.dn z2.dc] 31)) zb #[.int .i64 z.kind, .int .u64 z.num, .int .i64 z.node, .string z.key, .bool z.was, .string z.old, .int .u64 z.prev, .slice z.na z.nn z.nc, .slice z.ra z.rn z.rc, .slice z.ga z.gn z.gc, .slice z.oa z.om z.oc, .slice z.da z.dn z.dc] 31) := Blk.of HZB.out (y7.block _ HZB.out.lt)
    have HB10 : Hid (Blk (w10.alloc (.cells #[.int .i64 z2.kind, .int .u64 z2.num, .int .i64 z2.node, .string z2.key, .bool z2.was, .string z2.old, .int .u64 z2.prev, .slice z2.na z2.nn z2.nc, .slice z2.ra z2.rn z2.rc, .slice z2.ga z2.gn z2.gc, .slice z2.oa z2.om z2.oc, .slice z2.da z2.dn z2.dc] 31)) w.heap.size #[.int .i64 x.kind, .int .u64 x.num, .int .i64 x.node, .string x.key, .bool x.was, .string x.old, .int .u64 x.prev, .slice x.na x.nn x.nc, .slice x.ra x.rn x.rc, .slice x.ga x.gn x.gc, .slice x.oa x.om x.oc, .slice x.da x.dn x.dc] 31) := Blk.of HB7.out (y7.block _ HB7.out.lt)
    have HY10 : Hid (Below w.heap.size w (w10.alloc (.cells #[.int .i64 z2.kind, .int .u64 z2.num, .int .i64 z2.node, .string z2.key, .bool z2.was, .string z2.old, .int .u64 z2.prev, .slice z2.na z2.nn z2.nc, .slice z2.ra z2.rn z2.rc, .slice z2.ga z2.gn z2.gc, .slice z2.oa z2.om z2.oc, .slice z2.da z2.dn z2.dc] 31))) := ext_trans HY7.out y7
    have HS10 : Hid (Src (w10.alloc (.cells #[.int .i64 z2.kind, .int .u64 z2.num, .int .i64 z2.node, .string z2.key, .bool z2.was, .string z2.old, .int .u64 z2.prev, .slice z2.na z2.nn z2.nc, .slice z2.ra z2.rn z2.rc, .slice z2.ga z2.gn z2.gc, .slice z2.oa z2.om z2.oc, .slice z2.da z2.dn z2.dc] 31)) (.slice (some ad) n c1) B) := HS8.out.below y7
    clear hd hz2 y hd2 y7
    go_upto_region 13 with fail
    generalize w10.alloc (.cells #[.int .i64 z2.kind, .int .u64 z2.num, .int .i64 z2.node, .string z2.key, .bool z2.was, .string z2.old, .int .u64 z2.prev, .slice z2.na z2.nn z2.nc, .slice z2.ra z2.rn z2.rc, .slice z2.ga z2.gn z2.gc, .slice z2.oa z2.om z2.oc, .slice z2.da z2.dn z2.dc] 31) = w11 at *
    clear HZ7 HZB HB7 HY7 HS8 HO9 HY9
    -- a byte less
    have hn1 : ((n : Int) - 1) = ((n - 1 : Nat) : Int) := by have := HCAP.out; omega
    have hnw : wrap64 ((n - 1 : Nat) : Int) = ((n - 1 : Nat) : Int) := by unfold wrap64; have := HCAP.out; omega
    have hn2 : n - 1 ≤ c1 := by have := HCAP.out; omega
    have hn3 : ¬ c1 < n - 1 := by omega
    have HSL : Hid (Src w11 (.slice (some ad) (n - 1) c1) (B.take (n - 1))) := src_take (n - 1) HS10.out.at.2.2.2 HS10.out.at.2.1 HS10.out.at.2.2.1 (by have := HN.out; omega)
    go_wp2_with fail
    refine (recDecode_any _ (B.take (n - 1)) w11 HSL.out (by have := HN.out; have := HCAP.out; rw [List.length_take]; omega)).mono ?_
    rintro e w12 hd
    obtain ⟨z3, er3, rfl, hz3, y, hd3⟩ := decRP_one hd
    have hE3 : er3 = 11 := by
      rcases hd3 with ⟨_, h1, h2, h3⟩ | h
      · exfalso
        have h4 : recBytes x = recBytes z3 ++ B.drop (n - 1) := by rw [h3, List.take_append_drop, HBB.out]
        have h5 := (rec_apart HRT.out HX.out.2 h2 h1 h4).2
        have h6 := congrArg List.length h5
        have h7 := HN.out
        have h8 := HCAP.out
        rw [List.length_drop] at h6
        simp at h6
        omega
      · exact h
    subst hE3
    have y7 : Below w11.heap.size w11 (w12.alloc (.cells #[.int .i64 z3.kind, .int .u64 z3.num, .int .i64 z3.node, .string z3.key, .bool z3.was, .string z3.old, .int .u64 z3.prev, .slice z3.na z3.nn z3.nc, .slice z3.ra z3.rn z3.rc, .slice z3.ga z3.gn z3.gc, .slice z3.oa z3.om z3.oc, .slice z3.da z3.dn z3.dc] 31)) := y.alloc y.size _
    have HZ13 : Hid (z.At (w12.alloc (.cells #[.int .i64 z3.kind, .int .u64 z3.num, .int .i64 z3.node, .string z3.key, .bool z3.was, .string z3.old, .int .u64 z3.prev, .slice z3.na z3.nn z3.nc, .slice z3.ra z3.rn z3.rc, .slice z3.ga z3.gn z3.gc, .slice z3.oa z3.om z3.oc, .slice z3.da z3.dn z3.dc] 31))) := HZ10.out.below y7
    have HZB13 : Hid (Blk (w12.alloc (.cells #[.int .i64 z3.kind, .int .u64 z3.num, .int .i64 z3.node, .string z3.key, .bool z3.was, .string z3.old, .int .u64 z3.prev, .slice z3.na z3.nn z3.nc, .slice z3.ra z3.rn z3.rc, .slice z3.ga z3.gn z3.gc, .slice z3.oa z3.om z3.oc, .slice z3.da z3.dn z3.dc] 31)) zb #[.int .i64 z.kind, .int .u64 z.num, .int .i64 z.node, .string z.key, .bool z.was, .string z.old, .int .u64 z.prev, .slice z.na z.nn z.nc, .slice z.ra z.rn z.rc, .slice z.ga z.gn z.gc, .slice z.oa z.om z.oc, .slice z.da z.dn z.dc] 31) := Blk.of HZB10.out (y7.block _ HZB10.out.lt)
    have HB13 : Hid (Blk (w12.alloc (.cells #[.int .i64 z3.kind, .int .u64 z3.num, .int .i64 z3.node, .string z3.key, .bool z3.was, .string z3.old, .int .u64 z3.prev, .slice z3.na z3.nn z3.nc, .slice z3.ra z3.rn z3.rc, .slice z3.ga z3.gn z3.gc, .slice z3.oa z3.om z3.oc, .slice z3.da z3.dn z3.dc] 31)) w.heap.size #[.int .i64 x.kind, .int .u64 x.num, .int .i64 x.node, .string x.key, .bool x.was, .string x.old, .int .u64 x.prev, .slice x.na x.nn x.nc, .slice x.ra x.rn x.rc, .slice x.ga x.gn x.gc, .slice x.oa x.om x.oc, .slice x.da x.dn x.dc] 31) := Blk.of HB10.out (y7.block _ HB10.out.lt)
    have HY13 : Hid (Below w.heap.size w (w12.alloc (.cells #[.int .i64 z3.kind, .int .u64 z3.num, .int .i64 z3.node, .string z3.key, .bool z3.was, .string z3.old, .int .u64 z3.prev, .slice z3.na z3.nn z3.nc, .slice z3.ra z3.rn z3.rc, .slice z3.ga z3.gn z3.gc, .slice z3.oa z3.om z3.oc, .slice z3.da z3.dn z3.dc] 31))) := ext_trans HY10.out y7
    clear hd hz3 y hd3 y7
    go_upto_region 14 with fail
    generalize w12.alloc (.cells #[.int .i64 z3.kind, .int .u64 z3.num, .int .i64 z3.node, .string z3.key, .bool z3.was, .string z3.old, .int .u64 z3.prev, .slice z3.na z3.nn z3.nc, .slice z3.ra z3.rn z3.rc, .slice z3.ga z3.gn z3.gc, .slice z3.oa z3.om z3.oc, .slice z3.da z3.dn z3.dc] 31) = w13 at *
    clear HZ10 HZB10 HB10 HY10 HS10 HSL hn1 hn2 hn3 hnw
    rcases HD1.out with ⟨rfl, hw, hr, hb⟩ | rfl
    · have HC : Hid (x.q ≠ z.q) := fun e => HCH.out (by rw [HBB.out, ← hb, recBytes_q, recBytes_q, e])
      clear hw hr hb
      have z0 : w13.cell? ⟨w.heap.size, 0, none⟩ = some (.int .i64 x.kind) := HB13.out.cell 0
      have z1 : w13.cell? ⟨w.heap.size, 1, none⟩ = some (.int .u64 x.num) := HB13.out.cell 1
      have z2 : w13.cell? ⟨w.heap.size, 2, none⟩ = some (.int .i64 x.node) := HB13.out.cell 2
      have z3 : w13.cell? ⟨w.heap.size, 3, none⟩ = some (.string x.key) := HB13.out.cell 3
      have z4 : w13.cell? ⟨w.heap.size, 4, none⟩ = some (.bool x.was) := HB13.out.cell 4
      have z5 : w13.cell? ⟨w.heap.size, 5, none⟩ = some (.string x.old) := HB13.out.cell 5
      have z6 : w13.cell? ⟨w.heap.size, 6, none⟩ = some (.int .u64 x.prev) := HB13.out.cell 6
      have z7 : w13.cell? ⟨w.heap.size, 7, none⟩ = some (.slice x.na x.nn x.nc) := HB13.out.cell 7
      have z8 : w13.cell? ⟨w.heap.size, 8, none⟩ = some (.slice x.ra x.rn x.rc) := HB13.out.cell 8
      have z9 : w13.cell? ⟨w.heap.size, 9, none⟩ = some (.slice x.ga x.gn x.gc) := HB13.out.cell 9
      have z10 : w13.cell? ⟨w.heap.size, 10, none⟩ = some (.slice x.oa x.om x.oc) := HB13.out.cell 10
      have z11 : w13.cell? ⟨w.heap.size, 11, none⟩ = some (.slice x.da x.dn x.dc) := HB13.out.cell 11
      have q0 : w13.cell? ⟨zb, 0, none⟩ = some (.int .i64 z.kind) := HZB13.out.cell 0
      have q1 : w13.cell? ⟨zb, 1, none⟩ = some (.int .u64 z.num) := HZB13.out.cell 1
      have q2 : w13.cell? ⟨zb, 2, none⟩ = some (.int .i64 z.node) := HZB13.out.cell 2
      have q3 : w13.cell? ⟨zb, 3, none⟩ = some (.string z.key) := HZB13.out.cell 3
      have q4 : w13.cell? ⟨zb, 4, none⟩ = some (.bool z.was) := HZB13.out.cell 4
      have q5 : w13.cell? ⟨zb, 5, none⟩ = some (.string z.old) := HZB13.out.cell 5
      have q6 : w13.cell? ⟨zb, 6, none⟩ = some (.int .u64 z.prev) := HZB13.out.cell 6
      have q7 : w13.cell? ⟨zb, 7, none⟩ = some (.slice z.na z.nn z.nc) := HZB13.out.cell 7
      have q8 : w13.cell? ⟨zb, 8, none⟩ = some (.slice z.ra z.rn z.rc) := HZB13.out.cell 8
      have q9 : w13.cell? ⟨zb, 9, none⟩ = some (.slice z.ga z.gn z.gc) := HZB13.out.cell 9
      have q10 : w13.cell? ⟨zb, 10, none⟩ = some (.slice z.oa z.om z.oc) := HZB13.out.cell 10
      have q11 : w13.cell? ⟨zb, 11, none⟩ = some (.slice z.da z.dn z.dc) := HZB13.out.cell 11
      go_wp2_with fail
      refine (same11_any x z w13 (HX.out.1.below HY13.out) HZ13.out).mono ?_
      rintro e w14 ⟨b, rfl, hb, y⟩
      have HY14 : Hid (Below w.heap.size w w14) := ext_trans HY13.out y
      cases b with
      | true => exact absurd (hb.1 rfl) HC.out
      | false =>
        clear hb y
        go_wp2
        go_ret
        exact ⟨rfl, HY14.out⟩
    · go_wp2
      go_ret
      exact ⟨rfl, HY13.out⟩
end Go.Proofs.YthkmohcdgnldgaaGreat

/- msg: the law's head, and which messages it says are right. Own lemmas, no statement. -/
import Derived.Test.YtefmeeffkjendaaMsg4
set_option linter.unusedSimpArgs false
set_option linter.unusedVariables false
namespace Go.Proofs.Ytefmeeffkjendaa
open Go.ChangeShapes Go.WideShapes Go.ChangeAt Go.RowKit

theorem in_any (n : Int) (w : World) : Calls Try.prog 27 #[.int .i64 n] w fun e w' => e = .returned (.bool (nodeB n)) ∧ w' = w := by
  unfold nodeB
  go_enter Try.func27, Try.ntmps27
  by_cases h0 : 0 ≤ n
  · go_wp2
    go_ret
    exact ⟨ret_bool (by simp [h0]; omega), rfl⟩
  · go_wp2
    go_ret
    exact ⟨ret_bool (by rw [decide_eq_false (p := 0 ≤ n) (by omega)]; rfl), rfl⟩
theorem right_plain (x : MsgQ) : rightM x = true ↔ (1 ≤ x.kind ∧ x.kind ≤ 10) ∧ nodeB x.frm = true ∧ nodeB x.dst = true ∧ nodeB x.node = true ∧ x.num ≤ 1099511627776 ∧ (x.life = 0 ∨ (x.kind = 2 ∨ x.kind = 3 ∨ x.kind = 5) ∧ x.life ≤ 1099511627776) ∧ (x.n = 0 ∨ (x.kind = 3 ∨ x.kind = 4 ∨ x.kind = 5) ∧ 0 < x.n ∧ x.n ≤ 1048576) ∧ (x.kind = 3 → 1 ≤ x.op ∧ x.op ≤ 3 ∧ x.key.size ≠ 0 ∧ x.key.size ≤ 24) ∧ (x.kind ≠ 3 → x.op = 0 ∧ x.key.size = 0) ∧ (x.has = false ∨ x.kind = 4) ∧ (x.val.size = 0 ∨ ((x.kind = 3 ∧ x.op = 2) ∨ x.has = true) ∧ x.val.size ≤ 48) ∧ (x.code = 0 ∨ (x.kind = 4 ∨ x.kind = 6) ∧ 0 < x.code ∧ x.code ≤ 17) := by
  rw [right_iff]
  constructor
  · intro r
    have a := r.life
    have b := r.n
    have c := r.code
    unfold hasLifeB at a
    unfold hasNB at b
    unfold hasCodeB at c
    rw [decide_eq_true_eq] at a b c
    exact ⟨r.kind, decide_eq_true r.frm, decide_eq_true r.dst, decide_eq_true r.node, r.num, a, b, r.deed3, r.deed, r.has, r.val, c⟩
  · rintro ⟨h1, h2, h3, h4, h5, h6, h7, h8, h9, h10, h11, h12⟩
    refine ⟨h1, of_decide_eq_true h2, of_decide_eq_true h3, of_decide_eq_true h4, h5, ?_, ?_, h8, h9, h10, h11, ?_⟩
    · unfold hasLifeB; rw [decide_eq_true_eq]; exact h6
    · unfold hasNB; rw [decide_eq_true_eq]; exact h7
    · unfold hasCodeB; rw [decide_eq_true_eq]; exact h12
set_option maxRecDepth 100000 in
set_option maxHeartbeats 8000000 in
theorem rightL_any (x : MsgQ) (w : World) (hk : x.key.size ≤ 9223372036854775807) (hv : x.val.size ≤ 9223372036854775807) : Calls Try.prog 10 #[.agg #[.int .i64 x.kind, .int .i64 x.frm, .int .i64 x.dst, .int .u64 x.num, .int .i64 x.node, .int .u64 x.life, .int .i64 x.n, .int .i64 x.op, .string x.key, .string x.val, .bool x.has, .int .i64 x.code]] w fun e w' => e = .returned (.bool (rightM x)) ∧ Below w.heap.size w w' := by
  have HA : Hid (Blk (w.alloc (.cells #[.int .i64 x.kind, .int .i64 x.frm, .int .i64 x.dst, .int .u64 x.num, .int .i64 x.node, .int .u64 x.life, .int .i64 x.n, .int .i64 x.op, .string x.key, .string x.val, .bool x.has, .int .i64 x.code] 27)) w.heap.size #[.int .i64 x.kind, .int .i64 x.frm, .int .i64 x.dst, .int .u64 x.num, .int .i64 x.node, .int .u64 x.life, .int .i64 x.n, .int .i64 x.op, .string x.key, .string x.val, .bool x.has, .int .i64 x.code] 27) := Blk.new _ _ _
  have HY : Hid (Below w.heap.size w (w.alloc (.cells #[.int .i64 x.kind, .int .i64 x.frm, .int .i64 x.dst, .int .u64 x.num, .int .i64 x.node, .int .u64 x.life, .int .i64 x.n, .int .i64 x.op, .string x.key, .string x.val, .bool x.has, .int .i64 x.code] 27))) := (Below.refl _ _).alloc (Nat.le_refl _) _
  go_enter Try.func10, Try.ntmps10
  go_upto_region 1 with fail
  generalize w.alloc (.cells #[.int .i64 x.kind, .int .i64 x.frm, .int .i64 x.dst, .int .u64 x.num, .int .i64 x.node, .int .u64 x.life, .int .i64 x.n, .int .i64 x.op, .string x.key, .string x.val, .bool x.has, .int .i64 x.code] 27) = w0 at *
  have z0 : w0.cell? ⟨w.heap.size, 0, none⟩ = some (.int .i64 x.kind) := HA.out.cell 0
  have z1 : w0.cell? ⟨w.heap.size, 1, none⟩ = some (.int .i64 x.frm) := HA.out.cell 1
  have z2 : w0.cell? ⟨w.heap.size, 2, none⟩ = some (.int .i64 x.dst) := HA.out.cell 2
  have z3 : w0.cell? ⟨w.heap.size, 3, none⟩ = some (.int .u64 x.num) := HA.out.cell 3
  have z4 : w0.cell? ⟨w.heap.size, 4, none⟩ = some (.int .i64 x.node) := HA.out.cell 4
  have z5 : w0.cell? ⟨w.heap.size, 5, none⟩ = some (.int .u64 x.life) := HA.out.cell 5
  have z6 : w0.cell? ⟨w.heap.size, 6, none⟩ = some (.int .i64 x.n) := HA.out.cell 6
  have z7 : w0.cell? ⟨w.heap.size, 7, none⟩ = some (.int .i64 x.op) := HA.out.cell 7
  have z8 : w0.cell? ⟨w.heap.size, 8, none⟩ = some (.string x.key) := HA.out.cell 8
  have z9 : w0.cell? ⟨w.heap.size, 9, none⟩ = some (.string x.val) := HA.out.cell 9
  have z10 : w0.cell? ⟨w.heap.size, 10, none⟩ = some (.bool x.has) := HA.out.cell 10
  have z11 : w0.cell? ⟨w.heap.size, 11, none⟩ = some (.int .i64 x.code) := HA.out.cell 11
  clear HA
  have HP : Hid (rightM x = true ↔ (1 ≤ x.kind ∧ x.kind ≤ 10) ∧ nodeB x.frm = true ∧ nodeB x.dst = true ∧ nodeB x.node = true ∧ x.num ≤ 1099511627776 ∧ (x.life = 0 ∨ (x.kind = 2 ∨ x.kind = 3 ∨ x.kind = 5) ∧ x.life ≤ 1099511627776) ∧ (x.n = 0 ∨ (x.kind = 3 ∨ x.kind = 4 ∨ x.kind = 5) ∧ 0 < x.n ∧ x.n ≤ 1048576) ∧ (x.kind = 3 → 1 ≤ x.op ∧ x.op ≤ 3 ∧ x.key.size ≠ 0 ∧ x.key.size ≤ 24) ∧ (x.kind ≠ 3 → x.op = 0 ∧ x.key.size = 0) ∧ (x.has = false ∨ x.kind = 4) ∧ (x.val.size = 0 ∨ ((x.kind = 3 ∧ x.op = 2) ∨ x.has = true) ∧ x.val.size ≤ 48) ∧ (x.code = 0 ∨ (x.kind = 4 ∨ x.kind = 6) ∧ 0 < x.code ∧ x.code ≤ 17)) := right_plain x
  by_cases a1 : x.kind < 1
  case pos =>
    have HK : Hid (rightM x = false) := Bool.eq_false_iff.2 fun h => by
      obtain ⟨r1, r2, r3, r4, r5, r6, r7, r8, r9, r10, r11, r12⟩ := HP.out.1 h
      omega
    go_wp2
    go_ret
    exact ⟨ret_bool (by rw [HK.out]; try exact decide_eq_false (by omega)), HY.out⟩
  by_cases a2 : 10 < x.kind
  case pos =>
    have HK : Hid (rightM x = false) := Bool.eq_false_iff.2 fun h => by
      obtain ⟨r1, r2, r3, r4, r5, r6, r7, r8, r9, r10, r11, r12⟩ := HP.out.1 h
      omega
    go_wp2
    go_ret
    exact ⟨ret_bool (by rw [HK.out]; try exact decide_eq_false (by omega)), HY.out⟩
  go_wp2_with fail
  refine (in_any x.frm _).mono ?_
  rintro e w1 ⟨rfl, hw⟩
  subst hw
  obtain ⟨b, hb⟩ : ∃ b, nodeB x.frm = b := ⟨_, rfl⟩
  rw [hb]
  have HB0 : Hid (nodeB x.frm = b) := hb
  clear hb
  cases b with
  | false =>
    have HK : Hid (rightM x = false) := Bool.eq_false_iff.2 fun h => by
      obtain ⟨r1, r2, r3, r4, r5, r6, r7, r8, r9, r10, r11, r12⟩ := HP.out.1 h
      exact absurd (HB0.out.symm.trans r2) (by decide)
    go_wp2
    go_ret
    exact ⟨ret_bool (by rw [HK.out]; try exact decide_eq_false (by omega)), HY.out⟩
  | true =>
    go_wp2_with fail
    refine (in_any x.dst _).mono ?_
    rintro e w1 ⟨rfl, hw⟩
    subst hw
    obtain ⟨b, hb⟩ : ∃ b, nodeB x.dst = b := ⟨_, rfl⟩
    rw [hb]
    have HB1 : Hid (nodeB x.dst = b) := hb
    clear hb
    cases b with
    | false =>
      have HK : Hid (rightM x = false) := Bool.eq_false_iff.2 fun h => by
        obtain ⟨r1, r2, r3, r4, r5, r6, r7, r8, r9, r10, r11, r12⟩ := HP.out.1 h
        exact absurd (HB1.out.symm.trans r3) (by decide)
      go_wp2
      go_ret
      exact ⟨ret_bool (by rw [HK.out]; try exact decide_eq_false (by omega)), HY.out⟩
    | true =>
      go_wp2_with fail
      refine (in_any x.node _).mono ?_
      rintro e w1 ⟨rfl, hw⟩
      subst hw
      obtain ⟨b, hb⟩ : ∃ b, nodeB x.node = b := ⟨_, rfl⟩
      rw [hb]
      have HB2 : Hid (nodeB x.node = b) := hb
      clear hb
      cases b with
      | false =>
        have HK : Hid (rightM x = false) := Bool.eq_false_iff.2 fun h => by
          obtain ⟨r1, r2, r3, r4, r5, r6, r7, r8, r9, r10, r11, r12⟩ := HP.out.1 h
          exact absurd (HB2.out.symm.trans r4) (by decide)
        go_wp2
        go_ret
        exact ⟨ret_bool (by rw [HK.out]; try exact decide_eq_false (by omega)), HY.out⟩
      | true =>
        by_cases b1 : 1099511627776 < x.num
        case pos =>
          have HK : Hid (rightM x = false) := Bool.eq_false_iff.2 fun h => by
            obtain ⟨r1, r2, r3, r4, r5, r6, r7, r8, r9, r10, r11, r12⟩ := HP.out.1 h
            omega
          go_wp2
          go_ret
          exact ⟨ret_bool (by rw [HK.out]; try exact decide_eq_false (by omega)), HY.out⟩
        by_cases b2 : 1099511627776 < x.life
        case pos =>
          have HK : Hid (rightM x = false) := Bool.eq_false_iff.2 fun h => by
            obtain ⟨r1, r2, r3, r4, r5, r6, r7, r8, r9, r10, r11, r12⟩ := HP.out.1 h
            omega
          go_wp2
          go_ret
          exact ⟨ret_bool (by rw [HK.out]; try exact decide_eq_false (by omega)), HY.out⟩
        by_cases b3 : x.n < 0
        case pos =>
          have HK : Hid (rightM x = false) := Bool.eq_false_iff.2 fun h => by
            obtain ⟨r1, r2, r3, r4, r5, r6, r7, r8, r9, r10, r11, r12⟩ := HP.out.1 h
            omega
          go_wp2
          go_ret
          exact ⟨ret_bool (by rw [HK.out]; try exact decide_eq_false (by omega)), HY.out⟩
        by_cases b4 : 1048576 < x.n
        case pos =>
          have HK : Hid (rightM x = false) := Bool.eq_false_iff.2 fun h => by
            obtain ⟨r1, r2, r3, r4, r5, r6, r7, r8, r9, r10, r11, r12⟩ := HP.out.1 h
            omega
          go_wp2
          go_ret
          exact ⟨ret_bool (by rw [HK.out]; try exact decide_eq_false (by omega)), HY.out⟩
        by_cases b5 : 48 < x.val.size
        case pos =>
          have HK : Hid (rightM x = false) := Bool.eq_false_iff.2 fun h => by
            obtain ⟨r1, r2, r3, r4, r5, r6, r7, r8, r9, r10, r11, r12⟩ := HP.out.1 h
            omega
          go_wp2
          go_ret
          exact ⟨ret_bool (by rw [HK.out]; try exact decide_eq_false (by omega)), HY.out⟩
        by_cases b6 : x.code < 0
        case pos =>
          have HK : Hid (rightM x = false) := Bool.eq_false_iff.2 fun h => by
            obtain ⟨r1, r2, r3, r4, r5, r6, r7, r8, r9, r10, r11, r12⟩ := HP.out.1 h
            omega
          go_wp2
          go_ret
          exact ⟨ret_bool (by rw [HK.out]; try exact decide_eq_false (by omega)), HY.out⟩
        by_cases b7 : 17 < x.code
        case pos =>
          have HK : Hid (rightM x = false) := Bool.eq_false_iff.2 fun h => by
            obtain ⟨r1, r2, r3, r4, r5, r6, r7, r8, r9, r10, r11, r12⟩ := HP.out.1 h
            omega
          go_wp2
          go_ret
          exact ⟨ret_bool (by rw [HK.out]; try exact decide_eq_false (by omega)), HY.out⟩
        go_upto_region 4 with fail
        have HA1 : Hid (1 ≤ x.kind ∧ x.kind ≤ 10 ∧ x.num ≤ 1099511627776 ∧ x.life ≤ 1099511627776 ∧ 0 ≤ x.n ∧ x.n ≤ 1048576 ∧ x.val.size ≤ 48 ∧ 0 ≤ x.code ∧ x.code ≤ 17) := by show _ ∧ _; omega
        clear a1 a2 b1 b2 b3 b4 b6 b7
        by_cases k2 : x.kind = 2
        case pos =>
          have e2 : (x.kind == 2) = true := by simp [k2]
          have m2 : (x.kind != 2) = false := by simp [k2]
          have e3 : (x.kind == 3) = false := by exact beq_eq_false_iff_ne.2 (by omega)
          have m3 : (x.kind != 3) = true := by exact bne_iff_ne.2 (by omega)
          have e4 : (x.kind == 4) = false := by exact beq_eq_false_iff_ne.2 (by omega)
          have m4 : (x.kind != 4) = true := by exact bne_iff_ne.2 (by omega)
          have e5 : (x.kind == 5) = false := by exact beq_eq_false_iff_ne.2 (by omega)
          have m5 : (x.kind != 5) = true := by exact bne_iff_ne.2 (by omega)
          have e6 : (x.kind == 6) = false := by exact beq_eq_false_iff_ne.2 (by omega)
          have m6 : (x.kind != 6) = true := by exact bne_iff_ne.2 (by omega)
          have KD : Hid (x.kind = 2) := k2
          clear k2
          by_cases tn : x.n = 0
          case neg =>
            have qn : (x.n != 0) = true := bne_iff_ne.2 tn
            have q'n : (x.n == 0) = false := beq_eq_false_iff_ne.2 tn
            have HK : Hid (rightM x = false) := Bool.eq_false_iff.2 fun h => by
              obtain ⟨r1, r2, r3, r4, r5, r6, r7, r8, r9, r10, r11, r12⟩ := HP.out.1 h
              have k := KD.out; omega
            clear tn
            go_wp2
            go_ret
            exact ⟨ret_bool (by rw [HK.out]; try exact decide_eq_false (by omega)), HY.out⟩
          have qn : (x.n != 0) = false := by simp [tn]
          have q'n : (x.n == 0) = true := by simp [tn]
          have HTn : Hid (x.n = 0) := tn
          clear tn
          by_cases top : x.op = 0
          case neg =>
            have qop : (x.op != 0) = true := bne_iff_ne.2 top
            have q'op : (x.op == 0) = false := beq_eq_false_iff_ne.2 top
            have HK : Hid (rightM x = false) := Bool.eq_false_iff.2 fun h => by
              obtain ⟨r1, r2, r3, r4, r5, r6, r7, r8, r9, r10, r11, r12⟩ := HP.out.1 h
              have k := KD.out; omega
            clear top
            go_wp2
            go_ret
            exact ⟨ret_bool (by rw [HK.out]; try exact decide_eq_false (by omega)), HY.out⟩
          have qop : (x.op != 0) = false := by simp [top]
          have q'op : (x.op == 0) = true := by simp [top]
          have HTop : Hid (x.op = 0) := top
          clear top
          by_cases tkey : x.key.size = 0
          case neg =>
            have qkey : x.key.toList.isEmpty = false := Bool.eq_false_iff.2 fun e => tkey (by rw [empty_eq e]; rfl)
            have HK : Hid (rightM x = false) := Bool.eq_false_iff.2 fun h => by
              obtain ⟨r1, r2, r3, r4, r5, r6, r7, r8, r9, r10, r11, r12⟩ := HP.out.1 h
              have k := KD.out; omega
            clear tkey
            go_wp2
            go_ret
            exact ⟨ret_bool (by rw [HK.out]; try exact decide_eq_false (by omega)), HY.out⟩
          have qkey : x.key.toList.isEmpty = true := by rw [empty_of tkey]; kernel_rfl
          have HTkey : Hid (x.key.size = 0) := tkey
          clear tkey
          by_cases tval : x.val.size = 0
          case neg =>
            have qval : x.val.toList.isEmpty = false := Bool.eq_false_iff.2 fun e => tval (by rw [empty_eq e]; rfl)
            have HK : Hid (rightM x = false) := Bool.eq_false_iff.2 fun h => by
              obtain ⟨r1, r2, r3, r4, r5, r6, r7, r8, r9, r10, r11, r12⟩ := HP.out.1 h
              have k := KD.out; rcases r10 with e | e
              · rcases r11 with e2 | ⟨e2 | e2, _⟩
                · omega
                · omega
                · rw [e] at e2; cases e2
              · omega
            clear tval
            go_wp2
            go_ret
            exact ⟨ret_bool (by rw [HK.out]; try exact decide_eq_false (by omega)), HY.out⟩
          have qval : x.val.toList.isEmpty = true := by rw [empty_of tval]; kernel_rfl
          have HTval : Hid (x.val.size = 0) := tval
          clear tval
          obtain ⟨hv, hh⟩ : ∃ b, x.has = b := ⟨_, rfl⟩
          rw [hh] at z10
          cases hv with
          | true =>
            have HK : Hid (rightM x = false) := Bool.eq_false_iff.2 fun h => by
              obtain ⟨r1, r2, r3, r4, r5, r6, r7, r8, r9, r10, r11, r12⟩ := HP.out.1 h
              have k := KD.out; rcases r10 with e | e
              · rw [hh] at e; cases e
              · omega
            go_wp2
            go_ret
            exact ⟨ret_bool (by rw [HK.out]; try exact decide_eq_false (by omega)), HY.out⟩
          | false =>
            have HH : Hid (x.has = false) := hh
            clear hh
            by_cases tcode : x.code = 0
            case neg =>
              have qcode : (x.code == 0) = false := beq_eq_false_iff_ne.2 tcode
              have HK : Hid (rightM x = false) := Bool.eq_false_iff.2 fun h => by
                obtain ⟨r1, r2, r3, r4, r5, r6, r7, r8, r9, r10, r11, r12⟩ := HP.out.1 h
                have k := KD.out; omega
              clear tcode
              go_wp2
              go_ret
              exact ⟨ret_bool (by rw [HK.out]; try exact decide_eq_false (by omega)), HY.out⟩
            have qcode : (x.code == 0) = true := by simp [tcode]
            have HTcode : Hid (x.code = 0) := tcode
            clear tcode
            have HK : Hid (rightM x = true) := HP.out.2 (by
              have k := KD.out
              have a := HA1.out
              have f0 := HTn.out
              have f1 := HTop.out
              have f2 := HTkey.out
              have f3 := HTval.out
              have f4 := HTcode.out
              exact ⟨by omega, HB0.out, HB1.out, HB2.out, by omega, by omega, by omega, by omega, by omega, .inl HH.out, .inl HTval.out, by omega⟩)
            go_wp2
            go_ret
            exact ⟨ret_bool (by rw [HK.out]), HY.out⟩
        by_cases k3 : x.kind = 3
        case pos =>
          have e2 : (x.kind == 2) = false := by exact beq_eq_false_iff_ne.2 (by omega)
          have m2 : (x.kind != 2) = true := by exact bne_iff_ne.2 (by omega)
          have e3 : (x.kind == 3) = true := by simp [k3]
          have m3 : (x.kind != 3) = false := by simp [k3]
          have e4 : (x.kind == 4) = false := by exact beq_eq_false_iff_ne.2 (by omega)
          have m4 : (x.kind != 4) = true := by exact bne_iff_ne.2 (by omega)
          have e5 : (x.kind == 5) = false := by exact beq_eq_false_iff_ne.2 (by omega)
          have m5 : (x.kind != 5) = true := by exact bne_iff_ne.2 (by omega)
          have e6 : (x.kind == 6) = false := by exact beq_eq_false_iff_ne.2 (by omega)
          have m6 : (x.kind != 6) = true := by exact bne_iff_ne.2 (by omega)
          have KD : Hid (x.kind = 3) := k3
          clear k2 k3
          by_cases c1 : x.op < 1
          case pos =>
            have HK : Hid (rightM x = false) := Bool.eq_false_iff.2 fun h => by
              obtain ⟨r1, r2, r3, r4, r5, r6, r7, r8, r9, r10, r11, r12⟩ := HP.out.1 h
              have k := KD.out; omega
            go_wp2
            go_ret
            exact ⟨ret_bool (by rw [HK.out]; try exact decide_eq_false (by omega)), HY.out⟩
          by_cases c2 : 3 < x.op
          case pos =>
            have HK : Hid (rightM x = false) := Bool.eq_false_iff.2 fun h => by
              obtain ⟨r1, r2, r3, r4, r5, r6, r7, r8, r9, r10, r11, r12⟩ := HP.out.1 h
              have k := KD.out; omega
            go_wp2
            go_ret
            exact ⟨ret_bool (by rw [HK.out]; try exact decide_eq_false (by omega)), HY.out⟩
          by_cases c3 : x.key.size < 1
          case pos =>
            have HK : Hid (rightM x = false) := Bool.eq_false_iff.2 fun h => by
              obtain ⟨r1, r2, r3, r4, r5, r6, r7, r8, r9, r10, r11, r12⟩ := HP.out.1 h
              have k := KD.out; omega
            go_wp2
            go_ret
            exact ⟨ret_bool (by rw [HK.out]; try exact decide_eq_false (by omega)), HY.out⟩
          by_cases c4 : 24 < x.key.size
          case pos =>
            have HK : Hid (rightM x = false) := Bool.eq_false_iff.2 fun h => by
              obtain ⟨r1, r2, r3, r4, r5, r6, r7, r8, r9, r10, r11, r12⟩ := HP.out.1 h
              have k := KD.out; omega
            go_wp2
            go_ret
            exact ⟨ret_bool (by rw [HK.out]; try exact decide_eq_false (by omega)), HY.out⟩
          have HC : Hid (1 ≤ x.op ∧ x.op ≤ 3 ∧ 1 ≤ x.key.size ∧ x.key.size ≤ 24) := by show _ ∧ _; omega
          by_cases t2 : x.op = 2
          case pos =>
            have q2 : (x.op != 2) = false := by simp [t2]
            have HT2 : Hid (x.op = 2) := t2
            clear t2
            obtain ⟨hv, hh⟩ : ∃ b, x.has = b := ⟨_, rfl⟩
            rw [hh] at z10
            cases hv with
            | true =>
              have HK : Hid (rightM x = false) := Bool.eq_false_iff.2 fun h => by
                obtain ⟨r1, r2, r3, r4, r5, r6, r7, r8, r9, r10, r11, r12⟩ := HP.out.1 h
                have k := KD.out; rcases r10 with e | e
                · rw [hh] at e; cases e
                · omega
              go_wp2
              go_ret
              exact ⟨ret_bool (by rw [HK.out]; try exact decide_eq_false (by omega)), HY.out⟩
            | false =>
              have HH : Hid (x.has = false) := hh
              clear hh
              by_cases tcode : x.code = 0
              case neg =>
                have qcode : (x.code == 0) = false := beq_eq_false_iff_ne.2 tcode
                have HK : Hid (rightM x = false) := Bool.eq_false_iff.2 fun h => by
                  obtain ⟨r1, r2, r3, r4, r5, r6, r7, r8, r9, r10, r11, r12⟩ := HP.out.1 h
                  have k := KD.out; omega
                clear tcode
                go_wp2
                go_ret
                exact ⟨ret_bool (by rw [HK.out]; try exact decide_eq_false (by omega)), HY.out⟩
              have qcode : (x.code == 0) = true := by simp [tcode]
              have HTcode : Hid (x.code = 0) := tcode
              clear tcode
              have HK : Hid (rightM x = true) := HP.out.2 (by
                have k := KD.out
                have a := HA1.out
                have f0 := HT2.out
                have f1 := HC.out
                have f2 := HTcode.out
                exact ⟨by omega, HB0.out, HB1.out, HB2.out, by omega, by omega, by omega, by omega, by omega, .inl HH.out, .inr ⟨.inl ⟨k, HT2.out⟩, a.2.2.2.2.2.2.1⟩, by omega⟩)
              go_wp2
              go_ret
              exact ⟨ret_bool (by rw [HK.out]), HY.out⟩
          have q2 : (x.op != 2) = true := bne_iff_ne.2 t2
          have HT2 : Hid (x.op ≠ 2) := t2
          clear t2
          by_cases tval : x.val.size = 0
          case neg =>
            have qval : x.val.toList.isEmpty = false := Bool.eq_false_iff.2 fun e => tval (by rw [empty_eq e]; rfl)
            have HK : Hid (rightM x = false) := Bool.eq_false_iff.2 fun h => by
              obtain ⟨r1, r2, r3, r4, r5, r6, r7, r8, r9, r10, r11, r12⟩ := HP.out.1 h
              have k := KD.out; have k2 := HT2.out; rcases r10 with e | e
              · rcases r11 with e2 | ⟨e2 | e2, _⟩
                · omega
                · omega
                · rw [e] at e2; cases e2
              · omega
            clear tval
            go_wp2
            go_ret
            exact ⟨ret_bool (by rw [HK.out]; try exact decide_eq_false (by omega)), HY.out⟩
          have qval : x.val.toList.isEmpty = true := by rw [empty_of tval]; kernel_rfl
          have HTval : Hid (x.val.size = 0) := tval
          clear tval
          obtain ⟨hv, hh⟩ : ∃ b, x.has = b := ⟨_, rfl⟩
          rw [hh] at z10
          cases hv with
          | true =>
            have HK : Hid (rightM x = false) := Bool.eq_false_iff.2 fun h => by
              obtain ⟨r1, r2, r3, r4, r5, r6, r7, r8, r9, r10, r11, r12⟩ := HP.out.1 h
              have k := KD.out; rcases r10 with e | e
              · rw [hh] at e; cases e
              · omega
            go_wp2
            go_ret
            exact ⟨ret_bool (by rw [HK.out]; try exact decide_eq_false (by omega)), HY.out⟩
          | false =>
            have HH : Hid (x.has = false) := hh
            clear hh
            by_cases tcode : x.code = 0
            case neg =>
              have qcode : (x.code == 0) = false := beq_eq_false_iff_ne.2 tcode
              have HK : Hid (rightM x = false) := Bool.eq_false_iff.2 fun h => by
                obtain ⟨r1, r2, r3, r4, r5, r6, r7, r8, r9, r10, r11, r12⟩ := HP.out.1 h
                have k := KD.out; omega
              clear tcode
              go_wp2
              go_ret
              exact ⟨ret_bool (by rw [HK.out]; try exact decide_eq_false (by omega)), HY.out⟩
            have qcode : (x.code == 0) = true := by simp [tcode]
            have HTcode : Hid (x.code = 0) := tcode
            clear tcode
            have HK : Hid (rightM x = true) := HP.out.2 (by
              have k := KD.out
              have a := HA1.out
              have f0 := HTval.out
              have f1 := HC.out
              have f2 := HTcode.out
              exact ⟨by omega, HB0.out, HB1.out, HB2.out, by omega, by omega, by omega, by omega, by omega, .inl HH.out, .inl HTval.out, by omega⟩)
            go_wp2
            go_ret
            exact ⟨ret_bool (by rw [HK.out]), HY.out⟩
        by_cases k4 : x.kind = 4
        case pos =>
          have e2 : (x.kind == 2) = false := by exact beq_eq_false_iff_ne.2 (by omega)
          have m2 : (x.kind != 2) = true := by exact bne_iff_ne.2 (by omega)
          have e3 : (x.kind == 3) = false := by exact beq_eq_false_iff_ne.2 (by omega)
          have m3 : (x.kind != 3) = true := by exact bne_iff_ne.2 (by omega)
          have e4 : (x.kind == 4) = true := by simp [k4]
          have m4 : (x.kind != 4) = false := by simp [k4]
          have e5 : (x.kind == 5) = false := by exact beq_eq_false_iff_ne.2 (by omega)
          have m5 : (x.kind != 5) = true := by exact bne_iff_ne.2 (by omega)
          have e6 : (x.kind == 6) = false := by exact beq_eq_false_iff_ne.2 (by omega)
          have m6 : (x.kind != 6) = true := by exact bne_iff_ne.2 (by omega)
          have KD : Hid (x.kind = 4) := k4
          clear k2 k3 k4
          by_cases tlife : x.life = 0
          case neg =>
            have qlife : (x.life != 0) = true := bne_iff_ne.2 tlife
            have q'life : (x.life == 0) = false := beq_eq_false_iff_ne.2 tlife
            have HK : Hid (rightM x = false) := Bool.eq_false_iff.2 fun h => by
              obtain ⟨r1, r2, r3, r4, r5, r6, r7, r8, r9, r10, r11, r12⟩ := HP.out.1 h
              have k := KD.out; omega
            clear tlife
            go_wp2
            go_ret
            exact ⟨ret_bool (by rw [HK.out]; try exact decide_eq_false (by omega)), HY.out⟩
          have qlife : (x.life != 0) = false := by simp [tlife]
          have q'life : (x.life == 0) = true := by simp [tlife]
          have HTlife : Hid (x.life = 0) := tlife
          clear tlife
          by_cases top : x.op = 0
          case neg =>
            have qop : (x.op != 0) = true := bne_iff_ne.2 top
            have q'op : (x.op == 0) = false := beq_eq_false_iff_ne.2 top
            have HK : Hid (rightM x = false) := Bool.eq_false_iff.2 fun h => by
              obtain ⟨r1, r2, r3, r4, r5, r6, r7, r8, r9, r10, r11, r12⟩ := HP.out.1 h
              have k := KD.out; omega
            clear top
            go_wp2
            go_ret
            exact ⟨ret_bool (by rw [HK.out]; try exact decide_eq_false (by omega)), HY.out⟩
          have qop : (x.op != 0) = false := by simp [top]
          have q'op : (x.op == 0) = true := by simp [top]
          have HTop : Hid (x.op = 0) := top
          clear top
          by_cases tkey : x.key.size = 0
          case neg =>
            have qkey : x.key.toList.isEmpty = false := Bool.eq_false_iff.2 fun e => tkey (by rw [empty_eq e]; rfl)
            have HK : Hid (rightM x = false) := Bool.eq_false_iff.2 fun h => by
              obtain ⟨r1, r2, r3, r4, r5, r6, r7, r8, r9, r10, r11, r12⟩ := HP.out.1 h
              have k := KD.out; omega
            clear tkey
            go_wp2
            go_ret
            exact ⟨ret_bool (by rw [HK.out]; try exact decide_eq_false (by omega)), HY.out⟩
          have qkey : x.key.toList.isEmpty = true := by rw [empty_of tkey]; kernel_rfl
          have HTkey : Hid (x.key.size = 0) := tkey
          clear tkey
          obtain ⟨hv, hh⟩ : ∃ b, x.has = b := ⟨_, rfl⟩
          rw [hh] at z10
          cases hv with
          | true =>
            have HH : Hid (x.has = true) := hh
            clear hh
            have HV : Hid (x.kind = 4) := KD.out
            have HK : Hid (rightM x = true) := HP.out.2 (by
              have k := KD.out
              have a := HA1.out
              have f0 := HTlife.out
              have f1 := HTop.out
              have f2 := HTkey.out
              exact ⟨by omega, HB0.out, HB1.out, HB2.out, by omega, by omega, by omega, by omega, by omega, .inr HV.out, .inr ⟨.inr HH.out, a.2.2.2.2.2.2.1⟩, by omega⟩)
            go_wp2
            go_ret
            exact ⟨ret_bool (by rw [HK.out]), HY.out⟩
          | false =>
            have HH : Hid (x.has = false) := hh
            clear hh
            by_cases tval : x.val.size = 0
            case neg =>
              have qval : x.val.toList.isEmpty = false := Bool.eq_false_iff.2 fun e => tval (by rw [empty_eq e]; rfl)
              have HK : Hid (rightM x = false) := Bool.eq_false_iff.2 fun h => by
                obtain ⟨r1, r2, r3, r4, r5, r6, r7, r8, r9, r10, r11, r12⟩ := HP.out.1 h
                have k := KD.out; rcases r11 with e2 | ⟨e2 | e2, _⟩
                · omega
                · omega
                · rw [HH.out] at e2; cases e2
              clear tval
              go_wp2
              go_ret
              exact ⟨ret_bool (by rw [HK.out]; try exact decide_eq_false (by omega)), HY.out⟩
            have qval : x.val.toList.isEmpty = true := by rw [empty_of tval]; kernel_rfl
            have HTval : Hid (x.val.size = 0) := tval
            clear tval
            have HK : Hid (rightM x = true) := HP.out.2 (by
              have k := KD.out
              have a := HA1.out
              have f0 := HTlife.out
              have f1 := HTop.out
              have f2 := HTkey.out
              exact ⟨by omega, HB0.out, HB1.out, HB2.out, by omega, by omega, by omega, by omega, by omega, .inl HH.out, .inl HTval.out, by omega⟩)
            go_wp2
            go_ret
            exact ⟨ret_bool (by rw [HK.out]), HY.out⟩
        by_cases k5 : x.kind = 5
        case pos =>
          have e2 : (x.kind == 2) = false := by exact beq_eq_false_iff_ne.2 (by omega)
          have m2 : (x.kind != 2) = true := by exact bne_iff_ne.2 (by omega)
          have e3 : (x.kind == 3) = false := by exact beq_eq_false_iff_ne.2 (by omega)
          have m3 : (x.kind != 3) = true := by exact bne_iff_ne.2 (by omega)
          have e4 : (x.kind == 4) = false := by exact beq_eq_false_iff_ne.2 (by omega)
          have m4 : (x.kind != 4) = true := by exact bne_iff_ne.2 (by omega)
          have e5 : (x.kind == 5) = true := by simp [k5]
          have m5 : (x.kind != 5) = false := by simp [k5]
          have e6 : (x.kind == 6) = false := by exact beq_eq_false_iff_ne.2 (by omega)
          have m6 : (x.kind != 6) = true := by exact bne_iff_ne.2 (by omega)
          have KD : Hid (x.kind = 5) := k5
          clear k2 k3 k4 k5
          by_cases top : x.op = 0
          case neg =>
            have qop : (x.op != 0) = true := bne_iff_ne.2 top
            have q'op : (x.op == 0) = false := beq_eq_false_iff_ne.2 top
            have HK : Hid (rightM x = false) := Bool.eq_false_iff.2 fun h => by
              obtain ⟨r1, r2, r3, r4, r5, r6, r7, r8, r9, r10, r11, r12⟩ := HP.out.1 h
              have k := KD.out; omega
            clear top
            go_wp2
            go_ret
            exact ⟨ret_bool (by rw [HK.out]; try exact decide_eq_false (by omega)), HY.out⟩
          have qop : (x.op != 0) = false := by simp [top]
          have q'op : (x.op == 0) = true := by simp [top]
          have HTop : Hid (x.op = 0) := top
          clear top
          by_cases tkey : x.key.size = 0
          case neg =>
            have qkey : x.key.toList.isEmpty = false := Bool.eq_false_iff.2 fun e => tkey (by rw [empty_eq e]; rfl)
            have HK : Hid (rightM x = false) := Bool.eq_false_iff.2 fun h => by
              obtain ⟨r1, r2, r3, r4, r5, r6, r7, r8, r9, r10, r11, r12⟩ := HP.out.1 h
              have k := KD.out; omega
            clear tkey
            go_wp2
            go_ret
            exact ⟨ret_bool (by rw [HK.out]; try exact decide_eq_false (by omega)), HY.out⟩
          have qkey : x.key.toList.isEmpty = true := by rw [empty_of tkey]; kernel_rfl
          have HTkey : Hid (x.key.size = 0) := tkey
          clear tkey
          by_cases tval : x.val.size = 0
          case neg =>
            have qval : x.val.toList.isEmpty = false := Bool.eq_false_iff.2 fun e => tval (by rw [empty_eq e]; rfl)
            have HK : Hid (rightM x = false) := Bool.eq_false_iff.2 fun h => by
              obtain ⟨r1, r2, r3, r4, r5, r6, r7, r8, r9, r10, r11, r12⟩ := HP.out.1 h
              have k := KD.out; rcases r10 with e | e
              · rcases r11 with e2 | ⟨e2 | e2, _⟩
                · omega
                · omega
                · rw [e] at e2; cases e2
              · omega
            clear tval
            go_wp2
            go_ret
            exact ⟨ret_bool (by rw [HK.out]; try exact decide_eq_false (by omega)), HY.out⟩
          have qval : x.val.toList.isEmpty = true := by rw [empty_of tval]; kernel_rfl
          have HTval : Hid (x.val.size = 0) := tval
          clear tval
          obtain ⟨hv, hh⟩ : ∃ b, x.has = b := ⟨_, rfl⟩
          rw [hh] at z10
          cases hv with
          | true =>
            have HK : Hid (rightM x = false) := Bool.eq_false_iff.2 fun h => by
              obtain ⟨r1, r2, r3, r4, r5, r6, r7, r8, r9, r10, r11, r12⟩ := HP.out.1 h
              have k := KD.out; rcases r10 with e | e
              · rw [hh] at e; cases e
              · omega
            go_wp2
            go_ret
            exact ⟨ret_bool (by rw [HK.out]; try exact decide_eq_false (by omega)), HY.out⟩
          | false =>
            have HH : Hid (x.has = false) := hh
            clear hh
            by_cases tcode : x.code = 0
            case neg =>
              have qcode : (x.code == 0) = false := beq_eq_false_iff_ne.2 tcode
              have HK : Hid (rightM x = false) := Bool.eq_false_iff.2 fun h => by
                obtain ⟨r1, r2, r3, r4, r5, r6, r7, r8, r9, r10, r11, r12⟩ := HP.out.1 h
                have k := KD.out; omega
              clear tcode
              go_wp2
              go_ret
              exact ⟨ret_bool (by rw [HK.out]; try exact decide_eq_false (by omega)), HY.out⟩
            have qcode : (x.code == 0) = true := by simp [tcode]
            have HTcode : Hid (x.code = 0) := tcode
            clear tcode
            have HK : Hid (rightM x = true) := HP.out.2 (by
              have k := KD.out
              have a := HA1.out
              have f0 := HTop.out
              have f1 := HTkey.out
              have f2 := HTval.out
              have f3 := HTcode.out
              exact ⟨by omega, HB0.out, HB1.out, HB2.out, by omega, by omega, by omega, by omega, by omega, .inl HH.out, .inl HTval.out, by omega⟩)
            go_wp2
            go_ret
            exact ⟨ret_bool (by rw [HK.out]), HY.out⟩
        by_cases k6 : x.kind = 6
        case pos =>
          have e2 : (x.kind == 2) = false := by exact beq_eq_false_iff_ne.2 (by omega)
          have m2 : (x.kind != 2) = true := by exact bne_iff_ne.2 (by omega)
          have e3 : (x.kind == 3) = false := by exact beq_eq_false_iff_ne.2 (by omega)
          have m3 : (x.kind != 3) = true := by exact bne_iff_ne.2 (by omega)
          have e4 : (x.kind == 4) = false := by exact beq_eq_false_iff_ne.2 (by omega)
          have m4 : (x.kind != 4) = true := by exact bne_iff_ne.2 (by omega)
          have e5 : (x.kind == 5) = false := by exact beq_eq_false_iff_ne.2 (by omega)
          have m5 : (x.kind != 5) = true := by exact bne_iff_ne.2 (by omega)
          have e6 : (x.kind == 6) = true := by simp [k6]
          have m6 : (x.kind != 6) = false := by simp [k6]
          have KD : Hid (x.kind = 6) := k6
          clear k2 k3 k4 k5 k6
          by_cases tlife : x.life = 0
          case neg =>
            have qlife : (x.life != 0) = true := bne_iff_ne.2 tlife
            have q'life : (x.life == 0) = false := beq_eq_false_iff_ne.2 tlife
            have HK : Hid (rightM x = false) := Bool.eq_false_iff.2 fun h => by
              obtain ⟨r1, r2, r3, r4, r5, r6, r7, r8, r9, r10, r11, r12⟩ := HP.out.1 h
              have k := KD.out; omega
            clear tlife
            go_wp2
            go_ret
            exact ⟨ret_bool (by rw [HK.out]; try exact decide_eq_false (by omega)), HY.out⟩
          have qlife : (x.life != 0) = false := by simp [tlife]
          have q'life : (x.life == 0) = true := by simp [tlife]
          have HTlife : Hid (x.life = 0) := tlife
          clear tlife
          by_cases tn : x.n = 0
          case neg =>
            have qn : (x.n != 0) = true := bne_iff_ne.2 tn
            have q'n : (x.n == 0) = false := beq_eq_false_iff_ne.2 tn
            have HK : Hid (rightM x = false) := Bool.eq_false_iff.2 fun h => by
              obtain ⟨r1, r2, r3, r4, r5, r6, r7, r8, r9, r10, r11, r12⟩ := HP.out.1 h
              have k := KD.out; omega
            clear tn
            go_wp2
            go_ret
            exact ⟨ret_bool (by rw [HK.out]; try exact decide_eq_false (by omega)), HY.out⟩
          have qn : (x.n != 0) = false := by simp [tn]
          have q'n : (x.n == 0) = true := by simp [tn]
          have HTn : Hid (x.n = 0) := tn
          clear tn
          by_cases top : x.op = 0
          case neg =>
            have qop : (x.op != 0) = true := bne_iff_ne.2 top
            have q'op : (x.op == 0) = false := beq_eq_false_iff_ne.2 top
            have HK : Hid (rightM x = false) := Bool.eq_false_iff.2 fun h => by
              obtain ⟨r1, r2, r3, r4, r5, r6, r7, r8, r9, r10, r11, r12⟩ := HP.out.1 h
              have k := KD.out; omega
            clear top
            go_wp2
            go_ret
            exact ⟨ret_bool (by rw [HK.out]; try exact decide_eq_false (by omega)), HY.out⟩
          have qop : (x.op != 0) = false := by simp [top]
          have q'op : (x.op == 0) = true := by simp [top]
          have HTop : Hid (x.op = 0) := top
          clear top
          by_cases tkey : x.key.size = 0
          case neg =>
            have qkey : x.key.toList.isEmpty = false := Bool.eq_false_iff.2 fun e => tkey (by rw [empty_eq e]; rfl)
            have HK : Hid (rightM x = false) := Bool.eq_false_iff.2 fun h => by
              obtain ⟨r1, r2, r3, r4, r5, r6, r7, r8, r9, r10, r11, r12⟩ := HP.out.1 h
              have k := KD.out; omega
            clear tkey
            go_wp2
            go_ret
            exact ⟨ret_bool (by rw [HK.out]; try exact decide_eq_false (by omega)), HY.out⟩
          have qkey : x.key.toList.isEmpty = true := by rw [empty_of tkey]; kernel_rfl
          have HTkey : Hid (x.key.size = 0) := tkey
          clear tkey
          by_cases tval : x.val.size = 0
          case neg =>
            have qval : x.val.toList.isEmpty = false := Bool.eq_false_iff.2 fun e => tval (by rw [empty_eq e]; rfl)
            have HK : Hid (rightM x = false) := Bool.eq_false_iff.2 fun h => by
              obtain ⟨r1, r2, r3, r4, r5, r6, r7, r8, r9, r10, r11, r12⟩ := HP.out.1 h
              have k := KD.out; rcases r10 with e | e
              · rcases r11 with e2 | ⟨e2 | e2, _⟩
                · omega
                · omega
                · rw [e] at e2; cases e2
              · omega
            clear tval
            go_wp2
            go_ret
            exact ⟨ret_bool (by rw [HK.out]; try exact decide_eq_false (by omega)), HY.out⟩
          have qval : x.val.toList.isEmpty = true := by rw [empty_of tval]; kernel_rfl
          have HTval : Hid (x.val.size = 0) := tval
          clear tval
          obtain ⟨hv, hh⟩ : ∃ b, x.has = b := ⟨_, rfl⟩
          rw [hh] at z10
          cases hv with
          | true =>
            have HK : Hid (rightM x = false) := Bool.eq_false_iff.2 fun h => by
              obtain ⟨r1, r2, r3, r4, r5, r6, r7, r8, r9, r10, r11, r12⟩ := HP.out.1 h
              have k := KD.out; rcases r10 with e | e
              · rw [hh] at e; cases e
              · omega
            go_wp2
            go_ret
            exact ⟨ret_bool (by rw [HK.out]; try exact decide_eq_false (by omega)), HY.out⟩
          | false =>
            have HH : Hid (x.has = false) := hh
            clear hh
            have HK : Hid (rightM x = true) := HP.out.2 (by
              have k := KD.out
              have a := HA1.out
              have f0 := HTlife.out
              have f1 := HTn.out
              have f2 := HTop.out
              have f3 := HTkey.out
              have f4 := HTval.out
              exact ⟨by omega, HB0.out, HB1.out, HB2.out, by omega, by omega, by omega, by omega, by omega, .inl HH.out, .inl HTval.out, by omega⟩)
            go_wp2
            go_ret
            exact ⟨ret_bool (by rw [HK.out]), HY.out⟩
        have e2 : (x.kind == 2) = false := by exact beq_eq_false_iff_ne.2 (by omega)
        have m2 : (x.kind != 2) = true := by exact bne_iff_ne.2 (by omega)
        have e3 : (x.kind == 3) = false := by exact beq_eq_false_iff_ne.2 (by omega)
        have m3 : (x.kind != 3) = true := by exact bne_iff_ne.2 (by omega)
        have e4 : (x.kind == 4) = false := by exact beq_eq_false_iff_ne.2 (by omega)
        have m4 : (x.kind != 4) = true := by exact bne_iff_ne.2 (by omega)
        have e5 : (x.kind == 5) = false := by exact beq_eq_false_iff_ne.2 (by omega)
        have m5 : (x.kind != 5) = true := by exact bne_iff_ne.2 (by omega)
        have e6 : (x.kind == 6) = false := by exact beq_eq_false_iff_ne.2 (by omega)
        have m6 : (x.kind != 6) = true := by exact bne_iff_ne.2 (by omega)
        have KD : Hid (x.kind ≠ 2 ∧ x.kind ≠ 3 ∧ x.kind ≠ 4 ∧ x.kind ≠ 5 ∧ x.kind ≠ 6) := ⟨k2, k3, k4, k5, k6⟩
        clear k2 k3 k4 k5 k6
        by_cases tlife : x.life = 0
        case neg =>
          have qlife : (x.life != 0) = true := bne_iff_ne.2 tlife
          have q'life : (x.life == 0) = false := beq_eq_false_iff_ne.2 tlife
          have HK : Hid (rightM x = false) := Bool.eq_false_iff.2 fun h => by
            obtain ⟨r1, r2, r3, r4, r5, r6, r7, r8, r9, r10, r11, r12⟩ := HP.out.1 h
            have k := KD.out; omega
          clear tlife
          go_wp2
          go_ret
          exact ⟨ret_bool (by rw [HK.out]; try exact decide_eq_false (by omega)), HY.out⟩
        have qlife : (x.life != 0) = false := by simp [tlife]
        have q'life : (x.life == 0) = true := by simp [tlife]
        have HTlife : Hid (x.life = 0) := tlife
        clear tlife
        by_cases tn : x.n = 0
        case neg =>
          have qn : (x.n != 0) = true := bne_iff_ne.2 tn
          have q'n : (x.n == 0) = false := beq_eq_false_iff_ne.2 tn
          have HK : Hid (rightM x = false) := Bool.eq_false_iff.2 fun h => by
            obtain ⟨r1, r2, r3, r4, r5, r6, r7, r8, r9, r10, r11, r12⟩ := HP.out.1 h
            have k := KD.out; omega
          clear tn
          go_wp2
          go_ret
          exact ⟨ret_bool (by rw [HK.out]; try exact decide_eq_false (by omega)), HY.out⟩
        have qn : (x.n != 0) = false := by simp [tn]
        have q'n : (x.n == 0) = true := by simp [tn]
        have HTn : Hid (x.n = 0) := tn
        clear tn
        by_cases top : x.op = 0
        case neg =>
          have qop : (x.op != 0) = true := bne_iff_ne.2 top
          have q'op : (x.op == 0) = false := beq_eq_false_iff_ne.2 top
          have HK : Hid (rightM x = false) := Bool.eq_false_iff.2 fun h => by
            obtain ⟨r1, r2, r3, r4, r5, r6, r7, r8, r9, r10, r11, r12⟩ := HP.out.1 h
            have k := KD.out; omega
          clear top
          go_wp2
          go_ret
          exact ⟨ret_bool (by rw [HK.out]; try exact decide_eq_false (by omega)), HY.out⟩
        have qop : (x.op != 0) = false := by simp [top]
        have q'op : (x.op == 0) = true := by simp [top]
        have HTop : Hid (x.op = 0) := top
        clear top
        by_cases tkey : x.key.size = 0
        case neg =>
          have qkey : x.key.toList.isEmpty = false := Bool.eq_false_iff.2 fun e => tkey (by rw [empty_eq e]; rfl)
          have HK : Hid (rightM x = false) := Bool.eq_false_iff.2 fun h => by
            obtain ⟨r1, r2, r3, r4, r5, r6, r7, r8, r9, r10, r11, r12⟩ := HP.out.1 h
            have k := KD.out; omega
          clear tkey
          go_wp2
          go_ret
          exact ⟨ret_bool (by rw [HK.out]; try exact decide_eq_false (by omega)), HY.out⟩
        have qkey : x.key.toList.isEmpty = true := by rw [empty_of tkey]; kernel_rfl
        have HTkey : Hid (x.key.size = 0) := tkey
        clear tkey
        by_cases tval : x.val.size = 0
        case neg =>
          have qval : x.val.toList.isEmpty = false := Bool.eq_false_iff.2 fun e => tval (by rw [empty_eq e]; rfl)
          have HK : Hid (rightM x = false) := Bool.eq_false_iff.2 fun h => by
            obtain ⟨r1, r2, r3, r4, r5, r6, r7, r8, r9, r10, r11, r12⟩ := HP.out.1 h
            have k := KD.out; rcases r10 with e | e
            · rcases r11 with e2 | ⟨e2 | e2, _⟩
              · omega
              · omega
              · rw [e] at e2; cases e2
            · omega
          clear tval
          go_wp2
          go_ret
          exact ⟨ret_bool (by rw [HK.out]; try exact decide_eq_false (by omega)), HY.out⟩
        have qval : x.val.toList.isEmpty = true := by rw [empty_of tval]; kernel_rfl
        have HTval : Hid (x.val.size = 0) := tval
        clear tval
        obtain ⟨hv, hh⟩ : ∃ b, x.has = b := ⟨_, rfl⟩
        rw [hh] at z10
        cases hv with
        | true =>
          have HK : Hid (rightM x = false) := Bool.eq_false_iff.2 fun h => by
            obtain ⟨r1, r2, r3, r4, r5, r6, r7, r8, r9, r10, r11, r12⟩ := HP.out.1 h
            have k := KD.out; rcases r10 with e | e
            · rw [hh] at e; cases e
            · omega
          go_wp2
          go_ret
          exact ⟨ret_bool (by rw [HK.out]; try exact decide_eq_false (by omega)), HY.out⟩
        | false =>
          have HH : Hid (x.has = false) := hh
          clear hh
          by_cases tcode : x.code = 0
          case neg =>
            have qcode : (x.code == 0) = false := beq_eq_false_iff_ne.2 tcode
            have HK : Hid (rightM x = false) := Bool.eq_false_iff.2 fun h => by
              obtain ⟨r1, r2, r3, r4, r5, r6, r7, r8, r9, r10, r11, r12⟩ := HP.out.1 h
              have k := KD.out; omega
            clear tcode
            go_wp2
            go_ret
            exact ⟨ret_bool (by rw [HK.out]; try exact decide_eq_false (by omega)), HY.out⟩
          have qcode : (x.code == 0) = true := by simp [tcode]
          have HTcode : Hid (x.code = 0) := tcode
          clear tcode
          have HK : Hid (rightM x = true) := HP.out.2 (by
            have k := KD.out
            have a := HA1.out
            have f0 := HTlife.out
            have f1 := HTn.out
            have f2 := HTop.out
            have f3 := HTkey.out
            have f4 := HTval.out
            have f5 := HTcode.out
            exact ⟨by omega, HB0.out, HB1.out, HB2.out, by omega, by omega, by omega, by omega, by omega, .inl HH.out, .inl HTval.out, by omega⟩)
          go_wp2
          go_ret
          exact ⟨ret_bool (by rw [HK.out]), HY.out⟩
end Go.Proofs.Ytefmeeffkjendaa

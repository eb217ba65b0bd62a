/- Pages: Right, whole. Own lemmas, no statement. -/
import Derived.Test.YtbgofajldkblmaaGreatPg4
namespace Go.Proofs.YtbgofajldkblmaaGreat
open Go.ChangeShapes Go.WideShapes Go.ChangeAt Go.RowKit

set_option maxHeartbeats 8000000 in
theorem right_any (p : Pg) (kv vv dv : Value) (w : World) (hp : PgAt w p kv vv dv) (hok : p.Ok) :
    Calls Tryz.prog 25 #[pgv p kv vv dv] w fun e w' => e = .returned (.bool (rightPg p)) ∧ Below w.heap.size w w' := by
  have HP : Hid (PgAt w p kv vv dv) := hp
  have HO : Hid p.Ok := hok
  obtain ⟨ka, kc, va, vc, da, dc, rfl, rfl, rfl, b1, b2, b3⟩ := hp.forms
  have HE0 : Hid (∀ o, Below w.heap.size w (w.alloc o)) := fun o => (Below.refl _ _).alloc (Nat.le_refl _) _
  obtain ⟨x1, hx1⟩ : ∃ b, leafOk p = b := ⟨_, rfl⟩
  obtain ⟨x2, hx2⟩ : ∃ b, innerOk p = b := ⟨_, rfl⟩
  obtain ⟨x3, hx3⟩ : ∃ b, noL p = b := ⟨_, rfl⟩
  obtain ⟨x4, hx4⟩ : ∃ b, pageOk p.root = b := ⟨_, rfl⟩
  obtain ⟨x5, hx5⟩ : ∃ b, pageOk p.next = b := ⟨_, rfl⟩
  obtain ⟨x6, hx6⟩ : ∃ b, sameNum p ⟨0, [], [], [], 0, p.next, 0, 0⟩ = b := ⟨_, rfl⟩
  have HN : Hid (rightPg p = if p.kind = 1 then x1 else if p.kind = 2 then x2 else if p.kind = 3 then (x3 && x4 && x5 && decide (0 ≤ p.size) && decide (p.size ≤ 65536) && decide (0 ≤ p.idle) && decide (p.idle ≤ p.size)) else if p.kind = 4 then (x3 && x5 && x6) else false) := by
    show _ = _
    rw [rightPg, metaOk, freeOk, hx1, hx2, hx3, hx4, hx5, hx6]
  have H1 : Hid (∀ W, Below w.heap.size w W → Calls Tryz.prog 69 #[pgv p (.slice ka p.keys.length kc) (.slice va p.vals.length vc) (.slice da p.kids.length dc)] W fun e w' => e = .returned (.bool x1) ∧ Below W.heap.size W w') := fun W hW => by rw [← hx1]; exact rightLeaf_any p _ _ _ W (HP.out.below hW) HO.out
  have H2 : Hid (∀ W, Below w.heap.size w W → Calls Tryz.prog 70 #[pgv p (.slice ka p.keys.length kc) (.slice va p.vals.length vc) (.slice da p.kids.length dc)] W fun e w' => e = .returned (.bool x2) ∧ Below W.heap.size W w') := fun W hW => by rw [← hx2]; exact rightInner_any p _ _ _ W (HP.out.below hW) HO.out
  have H3 : Hid (∀ W, Below w.heap.size w W → Calls Tryz.prog 71 #[pgv p (.slice ka p.keys.length kc) (.slice va p.vals.length vc) (.slice da p.kids.length dc)] W fun e w' => e = .returned (.bool x3) ∧ Below W.heap.size W w') := fun W hW => by rw [← hx3]; exact noLists_any p _ _ _ W (HP.out.below hW)
  have H4 : Hid (∀ W, Calls Tryz.prog 72 #[.int .i64 p.root] W fun e w' => e = .returned (.bool x4) ∧ w' = W) := fun W => by rw [← hx4]; exact isPage_any _ W
  have H5 : Hid (∀ W, Calls Tryz.prog 72 #[.int .i64 p.next] W fun e w' => e = .returned (.bool x5) ∧ w' = W) := fun W => by rw [← hx5]; exact isPage_any _ W
  have H6 : Hid (∀ W, Calls Tryz.prog 73 #[pgv p (.slice ka p.keys.length kc) (.slice va p.vals.length vc) (.slice da p.kids.length dc), pgv ⟨0, [], [], [], 0, p.next, 0, 0⟩ (.slice none 0 0) (.slice none 0 0) (.slice none 0 0)] W fun e w' => e = .returned (.bool x6) ∧ Below W.heap.size W w') := fun W => by rw [← hx6]; exact sameNumbers_any p _ _ _ _ _ _ _ _ _ _ _ _ _ _ _ _ _ _ _ W
  have HB : Hid (∀ kn vn dn, PBox (w.alloc (.cells #[.int .i64 p.kind, .slice ka kn kc, .slice va vn vc, .slice da dn dc, .int .i64 p.root, .int .i64 p.next, .int .i64 p.size, .int .i64 p.idle] 47)) w.heap.size p (.slice ka kn kc) (.slice va vn vc) (.slice da dn dc)) := fun kn vn dn => pbox_new _ _ _ _ _
  clear hp HP hx1 hx2 hx3 hx4 hx5 hx6 hok HO
  unfold maxLen at *
  unfold pgv at *
  generalize p.keys.length = kn at *
  generalize p.vals.length = vn at *
  generalize p.kids.length = dn at *
  have HKK : Hid (∀ i : Int, (p.kind == i) = decide (p.kind = i)) := fun i => rfl
  by_cases c1 : p.kind = 1
  · have k1 : (p.kind == 1) = true := by rw [HKK.out]; simp [c1]
    have HR : Hid (rightPg p = x1) := by rw [HN.out, if_pos c1]; exact rfl
    clear c1 HN
    go_enter Tryz.func25, Tryz.ntmps25
    go_wp2_with fail
    refine (H1.out _ (HE0.out _)).mono ?_
    rintro e w1 ⟨rfl, y⟩
    have Y : Hid (Below w.heap.size w w1) := ext_trans (HE0.out _) y
    go_wp2
    go_ret
    exact ⟨ret_bool (by rw [HR.out]), Y.out⟩
  · have k1 : (p.kind == 1) = false := by rw [HKK.out]; simp [c1]
    by_cases c2 : p.kind = 2
    · have k2 : (p.kind == 2) = true := by rw [HKK.out]; simp [c2]
      have HR : Hid (rightPg p = x2) := by rw [HN.out, if_neg c1, if_pos c2]; exact rfl
      clear c1 c2 HN
      go_enter Tryz.func25, Tryz.ntmps25
      go_wp2_with fail
      refine (H2.out _ (HE0.out _)).mono ?_
      rintro e w1 ⟨rfl, y⟩
      have Y : Hid (Below w.heap.size w w1) := ext_trans (HE0.out _) y
      go_wp2
      go_ret
      exact ⟨ret_bool (by rw [HR.out]), Y.out⟩
    · have k2 : (p.kind == 2) = false := by rw [HKK.out]; simp [c2]
      by_cases c3 : p.kind = 3
      · have k3 : (p.kind == 3) = true := by rw [HKK.out]; simp [c3]
        have HR : Hid (rightPg p = (x3 && x4 && x5 && decide (0 ≤ p.size) && decide (p.size ≤ 65536) && decide (0 ≤ p.idle) && decide (p.idle ≤ p.size))) := by rw [HN.out, if_neg c1, if_neg c2, if_pos c3]; exact rfl
        clear c1 c2 c3 HN
        go_enter Tryz.func25, Tryz.ntmps25
        go_wp2_with fail
        refine (H3.out _ (HE0.out _)).mono ?_
        rintro e w1 ⟨rfl, y⟩
        have Y : Hid (Below w.heap.size w w1) := ext_trans (HE0.out _) y
        have B1 : Hid (PBox w1 w.heap.size p _ _ _) := (HB.out _ _ _).below y
        clear y HB HE0 H3 H1 H2 H6
        obtain ⟨z0, z1, z2, z3, z4, z5, z6, z7⟩ := B1.out.cells
        clear B1
        cases x3 with
        | false =>
          go_wp2
          go_ret
          exact ⟨ret_bool (by rw [HR.out]; simp), Y.out⟩
        | true =>
          go_wp2_with fail
          refine (H4.out _).mono ?_
          rintro e w2 ⟨rfl, hw2⟩
          subst hw2
          cases x4 with
          | false =>
            go_wp2
            go_ret
            exact ⟨ret_bool (by rw [HR.out]; simp), Y.out⟩
          | true =>
            go_wp2_with fail
            refine (H5.out _).mono ?_
            rintro e w3 ⟨rfl, hw3⟩
            subst hw3
            cases x5 with
            | false =>
              go_wp2
              go_ret
              exact ⟨ret_bool (by rw [HR.out]; simp), Y.out⟩
            | true =>
              go_wp2
              all_goals
                go_ret
                refine ⟨ret_bool ?_, Y.out⟩
                rw [HR.out, Bool.eq_iff_iff]
                simp only [Bool.and_eq_true, Bool.true_and, decide_eq_true_eq, Bool.false_eq_true, false_iff]
                omega
      · have k3 : (p.kind == 3) = false := by rw [HKK.out]; simp [c3]
        by_cases c4 : p.kind = 4
        · have k4 : (p.kind == 4) = true := by rw [HKK.out]; simp [c4]
          have HR : Hid (rightPg p = (x3 && x5 && x6)) := by rw [HN.out, if_neg c1, if_neg c2, if_neg c3, if_pos c4]; exact rfl
          clear c1 c2 c3 c4 HN
          go_enter Tryz.func25, Tryz.ntmps25
          go_wp2_with fail
          refine (H3.out _ (HE0.out _)).mono ?_
          rintro e w1 ⟨rfl, y⟩
          have Y : Hid (Below w.heap.size w w1) := ext_trans (HE0.out _) y
          have B1 : Hid (PBox w1 w.heap.size p _ _ _) := (HB.out _ _ _).below y
          clear y HB HE0 H3 H1 H2
          obtain ⟨z0, z1, z2, z3, z4, z5, z6, z7⟩ := B1.out.cells
          clear B1
          cases x3 with
          | false =>
            go_wp2
            go_ret
            exact ⟨ret_bool (by rw [HR.out]; simp), Y.out⟩
          | true =>
            go_wp2_with fail
            refine (H5.out _).mono ?_
            rintro e w2 ⟨rfl, hw2⟩
            subst hw2
            cases x5 with
            | false =>
              go_wp2
              go_ret
              exact ⟨ret_bool (by rw [HR.out]; simp), Y.out⟩
            | true =>
              go_wp2_with fail
              refine (H6.out _).mono ?_
              rintro e w3 ⟨rfl, y⟩
              have Y3 : Hid (Below w.heap.size w w3) := ext_trans Y.out y
              clear y Y z0 z1 z2 z3 z4 z5 z6 z7
              go_wp2
              go_ret
              exact ⟨ret_bool (by rw [HR.out]; simp), Y3.out⟩
        · have k4 : (p.kind == 4) = false := by rw [HKK.out]; simp [c4]
          have HR : Hid (rightPg p = false) := by rw [HN.out, if_neg c1, if_neg c2, if_neg c3, if_neg c4]; exact rfl
          clear c1 c2 c3 c4 HN
          go_enter Tryz.func25, Tryz.ntmps25
          go_wp2
          go_ret
          exact ⟨ret_bool (by rw [HR.out]), HE0.out _⟩
end Go.Proofs.YtbgofajldkblmaaGreat

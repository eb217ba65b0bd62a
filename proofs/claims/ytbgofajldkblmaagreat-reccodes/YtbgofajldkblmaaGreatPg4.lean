/- Pages: Right. Own lemmas, no statement. -/
import Derived.Test.YtbgofajldkblmaaGreatPg3
namespace Go.Proofs.YtbgofajldkblmaaGreat
open Go.ChangeShapes Go.WideShapes Go.ChangeAt Go.RowKit

def Pg.zero : Pg := ⟨0, [], [], [], 0, 0, 0, 0⟩
def noL (p : Pg) : Bool := decide (p.keys.length = 0) && decide (p.vals.length = 0) && decide (p.kids.length = 0)
def leafOk (p : Pg) : Bool := decide (p.keys.length ≤ 6) && decide (p.vals.length = p.keys.length) && decide (p.kids.length = 0) && sameNum p .zero && keysOk p.keys && valsOk p.vals
def innerOk (p : Pg) : Bool := decide (2 ≤ p.kids.length) && decide (p.kids.length ≤ 8) && decide (p.keys.length + 1 = p.kids.length) && decide (p.vals.length = 0) && sameNum p .zero && keysOk p.keys && kidsOk p.kids
def metaOk (p : Pg) : Bool := noL p && pageOk p.root && pageOk p.next && decide (0 ≤ p.size) && decide (p.size ≤ 65536) && decide (0 ≤ p.idle) && decide (p.idle ≤ p.size)
def freeOk (p : Pg) : Bool := noL p && pageOk p.next && sameNum p ⟨0, [], [], [], 0, p.next, 0, 0⟩
def rightPg (p : Pg) : Bool := if p.kind = 1 then leafOk p else if p.kind = 2 then innerOk p else if p.kind = 3 then metaOk p else if p.kind = 4 then freeOk p else false

/-- A page's lists as slices of these lengths. -/
theorem PgAt.forms {w : World} {p : Pg} {kv vv dv : Value} (h : PgAt w p kv vv dv) : ∃ ka kc va vc da dc, kv = .slice ka p.keys.length kc ∧ vv = .slice va p.vals.length vc ∧ dv = .slice da p.kids.length dc ∧ p.keys.length ≤ maxLen ∧ p.vals.length ≤ maxLen ∧ p.kids.length ≤ maxLen := by
  obtain ⟨ka, kc, h1, a1, a2, _⟩ := h.keys
  obtain ⟨va, vc, h2, b1, b2, _⟩ := h.vals
  obtain ⟨da, dc, h3, c1, c2, _⟩ := h.kids
  rw [sv_length] at h1 h2 a1 b1
  rw [iv_length] at h3 c1
  exact ⟨ka, kc, va, vc, da, dc, h1, h2, h3, by omega, by omega, by omega⟩

theorem pbox_new (w : World) (p : Pg) (kv vv dv : Value) : PBox (w.alloc (.cells #[.int .i64 p.kind, kv, vv, dv, .int .i64 p.root, .int .i64 p.next, .int .i64 p.size, .int .i64 p.idle] 47)) w.heap.size p kv vv dv := Blk.new _ _ _

set_option maxHeartbeats 1000000 in
theorem noLists_any (p : Pg) (kv vv dv : Value) (w : World) (hp : PgAt w p kv vv dv) :
    Calls Tryz.prog 71 #[pgv p kv vv dv] w fun e w' => e = .returned (.bool (noL p)) ∧ Below w.heap.size w w' := by
  obtain ⟨ka, kc, va, vc, da, dc, rfl, rfl, rfl, b1, b2, b3⟩ := hp.forms
  have HE0 : Hid (∀ o, Below w.heap.size w (w.alloc o)) := fun o => (Below.refl _ _).alloc (Nat.le_refl _) _
  have HN : Hid (noL p = (decide (p.keys.length = 0) && decide (p.vals.length = 0) && decide (p.kids.length = 0))) := rfl
  clear hp
  unfold maxLen at *
  unfold pgv
  generalize p.keys.length = kn at *
  generalize p.vals.length = vn at *
  generalize p.kids.length = dn at *
  go_enter Tryz.func71, Tryz.ntmps71
  go_wp2
  all_goals
    go_ret
    refine ⟨ret_bool ?_, HE0.out _⟩
    rw [HN.out, Bool.eq_iff_iff]
    simp_all <;> omega

theorem ext_trans {w a b : World} (h : Below w.heap.size w a) (k : Below a.heap.size a b) : Below w.heap.size w b := h.trans (k.mono h.size)

set_option maxHeartbeats 4000000 in
theorem rightLeaf_any (p : Pg) (kv vv dv : Value) (w : World) (hp : PgAt w p kv vv dv) (hok : p.Ok) :
    Calls Tryz.prog 69 #[pgv p kv vv dv] w fun e w' => e = .returned (.bool (leafOk p)) ∧ Below w.heap.size w w' := by
  have HP : Hid (PgAt w p kv vv dv) := hp
  obtain ⟨ka, kc, va, vc, da, dc, rfl, rfl, rfl, b1, b2, b3⟩ := hp.forms
  have HE0 : Hid (∀ o, Below w.heap.size w (w.alloc o)) := fun o => (Below.refl _ _).alloc (Nat.le_refl _) _
  obtain ⟨x1, hx1⟩ : ∃ b, sameNum p .zero = b := ⟨_, rfl⟩
  obtain ⟨x2, hx2⟩ : ∃ b, keysOk p.keys = b := ⟨_, rfl⟩
  obtain ⟨x3, hx3⟩ : ∃ b, valsOk p.vals = b := ⟨_, rfl⟩
  have HN : Hid (leafOk p = (decide (p.keys.length ≤ 6) && decide (p.vals.length = p.keys.length) && decide (p.kids.length = 0) && x1 && x2 && x3)) := by show _ = _; rw [leafOk, hx1, hx2, hx3]
  have H1 : Hid (∀ W, Calls Tryz.prog 73 #[pgv p (.slice ka p.keys.length kc) (.slice va p.vals.length vc) (.slice da p.kids.length dc), pgv .zero (.slice none 0 0) (.slice none 0 0) (.slice none 0 0)] W fun e w' => e = .returned (.bool x1) ∧ Below W.heap.size W w') := fun W => by rw [← hx1]; exact sameNumbers_any p .zero _ _ _ _ _ _ _ _ _ _ _ _ _ _ _ _ _ _ W
  have H2 : Hid (∀ W, Below w.heap.size w W → Calls Tryz.prog 99 #[.slice ka p.keys.length kc] W fun e w' => e = .returned (.bool x2) ∧ w' = W) := fun W hW => by rw [← hx2]; exact rightKeys_any _ _ W (HP.out.keys.below hW) hok.keys
  have H3 : Hid (∀ W, Below w.heap.size w W → Calls Tryz.prog 100 #[.slice va p.vals.length vc] W fun e w' => e = .returned (.bool x3) ∧ w' = W) := fun W hW => by rw [← hx3]; exact rightVals_any _ _ W (HP.out.vals.below hW) hok.vals
  have HB : Hid (∀ kn vn dn, PBox (w.alloc (.cells #[.int .i64 p.kind, .slice ka kn kc, .slice va vn vc, .slice da dn dc, .int .i64 p.root, .int .i64 p.next, .int .i64 p.size, .int .i64 p.idle] 47)) w.heap.size p (.slice ka kn kc) (.slice va vn vc) (.slice da dn dc)) := fun kn vn dn => pbox_new _ _ _ _ _
  clear hp HP hx1 hx2 hx3 hok
  unfold maxLen at *
  unfold pgv at *
  generalize p.keys.length = kn at *
  generalize p.vals.length = vn at *
  generalize p.kids.length = dn at *
  by_cases g1 : kn ≤ 6
  · by_cases g2 : vn = kn
    · subst g2
      by_cases g3 : dn = 0
      · subst g3
        go_enter Tryz.func69, Tryz.ntmps69
        go_wp2_with fail
        refine (H1.out _).mono ?_
        rintro e w1 ⟨rfl, y⟩
        have Y : Hid (Below w.heap.size w w1) := ext_trans (HE0.out _) y
        have B1 : Hid (PBox w1 w.heap.size p _ _ _) := (HB.out _ _ _).below y
        clear y HB HE0 H1
        obtain ⟨z0, z1, z2, z3, z4, z5, z6, z7⟩ := B1.out.cells
        clear B1 z0 z3 z4 z5 z6 z7
        cases x1 with
        | false =>
          go_wp2
          go_ret
          exact ⟨ret_bool (by rw [HN.out]; simp), Y.out⟩
        | true =>
          go_wp2_with fail
          refine (H2.out _ Y.out).mono ?_
          rintro e w2 ⟨rfl, hw2⟩
          subst hw2
          cases x2 with
          | false =>
            go_wp2
            go_ret
            exact ⟨ret_bool (by rw [HN.out]; simp), Y.out⟩
          | true =>
            go_wp2_with fail
            refine (H3.out _ Y.out).mono ?_
            rintro e w3 ⟨rfl, hw3⟩
            subst hw3
            go_wp2
            go_ret
            exact ⟨ret_bool (by rw [HN.out]; simp [g1]), Y.out⟩
      · go_enter Tryz.func69, Tryz.ntmps69
        go_wp2
        go_ret
        exact ⟨ret_bool (by rw [HN.out]; simp [g3]), HE0.out _⟩
    · go_enter Tryz.func69, Tryz.ntmps69
      go_wp2
      go_ret
      exact ⟨ret_bool (by rw [HN.out]; simp [g2]), HE0.out _⟩
  · go_enter Tryz.func69, Tryz.ntmps69
    go_wp2
    go_ret
    exact ⟨ret_bool (by rw [HN.out]; simp [g1]), HE0.out _⟩

set_option maxHeartbeats 4000000 in
theorem rightInner_any (p : Pg) (kv vv dv : Value) (w : World) (hp : PgAt w p kv vv dv) (hok : p.Ok) :
    Calls Tryz.prog 70 #[pgv p kv vv dv] w fun e w' => e = .returned (.bool (innerOk p)) ∧ Below w.heap.size w w' := by
  have HP : Hid (PgAt w p kv vv dv) := hp
  obtain ⟨ka, kc, va, vc, da, dc, rfl, rfl, rfl, b1, b2, b3⟩ := hp.forms
  have HE0 : Hid (∀ o, Below w.heap.size w (w.alloc o)) := fun o => (Below.refl _ _).alloc (Nat.le_refl _) _
  obtain ⟨x1, hx1⟩ : ∃ b, sameNum p .zero = b := ⟨_, rfl⟩
  obtain ⟨x2, hx2⟩ : ∃ b, keysOk p.keys = b := ⟨_, rfl⟩
  obtain ⟨x3, hx3⟩ : ∃ b, kidsOk p.kids = b := ⟨_, rfl⟩
  have HN : Hid (innerOk p = (decide (2 ≤ p.kids.length) && decide (p.kids.length ≤ 8) && decide (p.keys.length + 1 = p.kids.length) && decide (p.vals.length = 0) && x1 && x2 && x3)) := by show _ = _; rw [innerOk, hx1, hx2, hx3]
  have H1 : Hid (∀ W, Calls Tryz.prog 73 #[pgv p (.slice ka p.keys.length kc) (.slice va p.vals.length vc) (.slice da p.kids.length dc), pgv .zero (.slice none 0 0) (.slice none 0 0) (.slice none 0 0)] W fun e w' => e = .returned (.bool x1) ∧ Below W.heap.size W w') := fun W => by rw [← hx1]; exact sameNumbers_any p .zero _ _ _ _ _ _ _ _ _ _ _ _ _ _ _ _ _ _ W
  have H2 : Hid (∀ W, Below w.heap.size w W → Calls Tryz.prog 99 #[.slice ka p.keys.length kc] W fun e w' => e = .returned (.bool x2) ∧ w' = W) := fun W hW => by rw [← hx2]; exact rightKeys_any _ _ W (HP.out.keys.below hW) hok.keys
  have H3 : Hid (∀ W, Below w.heap.size w W → Calls Tryz.prog 101 #[.slice da p.kids.length dc] W fun e w' => e = .returned (.bool x3) ∧ w' = W) := fun W hW => by rw [← hx3]; exact rightKids_any _ _ W (HP.out.kids.below hW)
  have HB : Hid (∀ kn vn dn, PBox (w.alloc (.cells #[.int .i64 p.kind, .slice ka kn kc, .slice va vn vc, .slice da dn dc, .int .i64 p.root, .int .i64 p.next, .int .i64 p.size, .int .i64 p.idle] 47)) w.heap.size p (.slice ka kn kc) (.slice va vn vc) (.slice da dn dc)) := fun kn vn dn => pbox_new _ _ _ _ _
  clear hp HP hx1 hx2 hx3 hok
  unfold maxLen at *
  unfold pgv at *
  generalize p.keys.length = kn at *
  generalize p.vals.length = vn at *
  generalize p.kids.length = dn at *
  by_cases g1 : 2 ≤ dn
  · by_cases g2 : dn ≤ 8
    · by_cases g3 : kn + 1 = dn
      · subst g3
        by_cases g4 : vn = 0
        · subst g4
          go_enter Tryz.func70, Tryz.ntmps70
          go_wp2_with fail
          refine (H1.out _).mono ?_
          rintro e w1 ⟨rfl, y⟩
          have Y : Hid (Below w.heap.size w w1) := ext_trans (HE0.out _) y
          have B1 : Hid (PBox w1 w.heap.size p _ _ _) := (HB.out _ _ _).below y
          clear y HB HE0 H1
          obtain ⟨z0, z1, z2, z3, z4, z5, z6, z7⟩ := B1.out.cells
          clear B1 z0 z2 z4 z5 z6 z7
          cases x1 with
          | false =>
            go_wp2
            go_ret
            exact ⟨ret_bool (by rw [HN.out]; simp), Y.out⟩
          | true =>
            go_wp2_with fail
            refine (H2.out _ Y.out).mono ?_
            rintro e w2 ⟨rfl, hw2⟩
            subst hw2
            cases x2 with
            | false =>
              go_wp2
              go_ret
              exact ⟨ret_bool (by rw [HN.out]; simp), Y.out⟩
            | true =>
              go_wp2_with fail
              refine (H3.out _ Y.out).mono ?_
              rintro e w3 ⟨rfl, hw3⟩
              subst hw3
              go_wp2
              go_ret
              exact ⟨ret_bool (by rw [HN.out]; simp; omega), Y.out⟩
        · go_enter Tryz.func70, Tryz.ntmps70
          go_wp2
          go_ret
          exact ⟨ret_bool (by rw [HN.out]; simp [g4]), HE0.out _⟩
      · have g5 : ((kn : Int) == (dn : Int) - 1) = false := by rw [beq_eq_false_iff_ne]; omega
        go_enter Tryz.func70, Tryz.ntmps70
        go_wp2
        go_ret
        exact ⟨ret_bool (by rw [HN.out]; simp [g3]), HE0.out _⟩
    · go_enter Tryz.func70, Tryz.ntmps70
      go_wp2
      go_ret
      exact ⟨ret_bool (by rw [HN.out]; simp [g2]), HE0.out _⟩
  · go_enter Tryz.func70, Tryz.ntmps70
    go_wp2
    go_ret
    exact ⟨ret_bool (by rw [HN.out]; simp [g1]), HE0.out _⟩
end Go.Proofs.YtbgofajldkblmaaGreat

/- Pages: what a page's value reads as; sameNumbers, Same, Clone. Own lemmas, no statement. -/
import Derived.Test.YtbgofajldkblmaaGreatPg1
namespace Go.Proofs.YtbgofajldkblmaaGreat
open Go.ChangeShapes Go.WideShapes Go.ChangeAt Go.RowKit

structure Pg where
  kind : Int
  keys : List ByteArray
  vals : List ByteArray
  kids : List Int
  root : Int
  next : Int
  size : Int
  idle : Int

/-- A page's value, its lists' slices given. -/
def pgv (p : Pg) (kv vv dv : Value) : Value := .agg #[.int .i64 p.kind, kv, vv, dv, .int .i64 p.root, .int .i64 p.next, .int .i64 p.size, .int .i64 p.idle]
def pgc (p : Pg) (kv vv dv : Value) : Array Value := #[.int .i64 p.kind, kv, vv, dv, .int .i64 p.root, .int .i64 p.next, .int .i64 p.size, .int .i64 p.idle]

/-- What holds of any page in memory. -/
structure Pg.Ok (p : Pg) : Prop where
  keys : ∀ s ∈ p.keys, s.size ≤ maxLen
  vals : ∀ s ∈ p.vals, s.size ≤ maxLen
  kids : ∀ n ∈ p.kids, -9223372036854775808 ≤ n ∧ n < 9223372036854775808
  kind : -9223372036854775808 ≤ p.kind ∧ p.kind < 9223372036854775808
  root : -9223372036854775808 ≤ p.root ∧ p.root < 9223372036854775808
  next : -9223372036854775808 ≤ p.next ∧ p.next < 9223372036854775808
  size : -9223372036854775808 ≤ p.size ∧ p.size < 9223372036854775808
  idle : -9223372036854775808 ≤ p.idle ∧ p.idle < 9223372036854775808

structure PgAt (w : World) (p : Pg) (kv vv dv : Value) : Prop where
  keys : Rd w kv (sv p.keys)
  vals : Rd w vv (sv p.vals)
  kids : Rd w dv (iv p.kids)
theorem PgAt.below {w w' : World} {p : Pg} {kv vv dv : Value} (h : PgAt w p kv vv dv) (hb : Below w.heap.size w w') : PgAt w' p kv vv dv := ⟨h.keys.below hb, h.vals.below hb, h.kids.below hb⟩

def far (a b : Value) : Prop := ∀ g, a.ownBlock = some g → b.ownBlock ≠ some g
theorem far.symm {a b : Value} (h : far a b) : far b a := fun g hg e => h g e hg

/-- A page of a call's own. -/
structure PgO (w : World) (B : Nat) (p : Pg) (kv vv dv : Value) : Prop where
  keys : OwnV w B 9 kv (sv p.keys)
  vals : OwnV w B 9 vv (sv p.vals)
  kids : OwnV w B 3 dv (iv p.kids)
  fkv : far kv vv
  fkd : far kv dv
  fvd : far vv dv
theorem PgO.at {w : World} {B : Nat} {p : Pg} {kv vv dv : Value} (h : PgO w B p kv vv dv) : PgAt w p kv vv dv := ⟨h.keys.rd, h.vals.rd, h.kids.rd⟩
theorem PgO.below {w w' : World} {B : Nat} {p : Pg} {kv vv dv : Value} (h : PgO w B p kv vv dv) (hb : Below w.heap.size w w') : PgO w' B p kv vv dv := ⟨h.keys.below hb, h.vals.below hb, h.kids.below hb, h.fkv, h.fkd, h.fvd⟩
theorem PgO.mono {w : World} {B B' : Nat} {p : Pg} {kv vv dv : Value} (h : PgO w B p kv vv dv) (hb : B' ≤ B) : PgO w B' p kv vv dv := ⟨h.keys.mono hb, h.vals.mono hb, h.kids.mono hb, h.fkv, h.fkd, h.fvd⟩

theorem Rd.form {w : World} {v : Value} {us : List Value} (h : Rd w v us) : ∃ ao c, v = .slice ao us.length c := by obtain ⟨ao, c, e, _⟩ := h; exact ⟨ao, c, e⟩
theorem OwnV.blk {w : World} {B : Nat} {T : TypeId} {v : Value} {us : List Value} (h : OwnV w B T v us) : ∀ g, v.ownBlock = some g → B ≤ g ∧ g < w.heap.size := World.ownsRow.lt h
def sameNum (p q : Pg) : Bool := decide (p.root = q.root) && decide (p.next = q.next) && decide (p.size = q.size) && decide (p.idle = q.idle)

set_option maxHeartbeats 1000000 in
theorem sameNumbers_any (p q : Pg) (ka kn kc va vn vc da dn dc ka' kn' kc' va' vn' vc' da' dn' dc' ) (w : World) :
    Calls Tryz.prog 73 #[pgv p (.slice ka kn kc) (.slice va vn vc) (.slice da dn dc), pgv q (.slice ka' kn' kc') (.slice va' vn' vc') (.slice da' dn' dc')] w fun e w' => e = .returned (.bool (sameNum p q)) ∧ Below w.heap.size w w' := by
  obtain ⟨pk, pks, pvs, pds, pr, pn, ps, pi⟩ := p
  obtain ⟨qk, qks, qvs, qds, qr, qn, qs, qi⟩ := q
  unfold pgv sameNum
  simp only
  have hB : ∀ o o', Below w.heap.size w ((w.alloc o).alloc o') := fun o o' => ((Below.refl _ _).alloc (Nat.le_refl _) _).alloc (by simp) _
  have HB : Hid _ := hB
  clear hB
  go_enter Tryz.func73, Tryz.ntmps73
  go_wp2
  all_goals
    go_ret
    refine ⟨ret_bool ?_, HB.out _ _⟩
    simp_all <;> rfl

theorem blk_two (w : World) (c1 c2 : Array Value) (T1 T2 : TypeId) : Blk ((w.alloc (.cells c1 T1)).alloc (.cells c2 T2)) (w.heap.size + 1) c2 T2 := by
  have := Blk.new (w.alloc (.cells c1 T1)) c2 T2
  simpa using this

/-- Eight cells stored, one by one. -/
def put8 (w : World) (b : Nat) (u0 u1 u2 u3 u4 u5 u6 u7 : Value) : World := (((((((w.setCell ⟨b, 0, none⟩ u0).setCell ⟨b, 1, none⟩ u1).setCell ⟨b, 2, none⟩ u2).setCell ⟨b, 3, none⟩ u3).setCell ⟨b, 4, none⟩ u4).setCell ⟨b, 5, none⟩ u5).setCell ⟨b, 6, none⟩ u6).setCell ⟨b, 7, none⟩ u7
theorem blk_set8 {w : World} {b : Nat} {T : TypeId} {x0 x1 x2 x3 x4 x5 x6 x7 : Value} (u0 u1 u2 u3 u4 u5 u6 u7 : Value) (h : Blk w b #[x0, x1, x2, x3, x4, x5, x6, x7] T) : Blk (put8 w b u0 u1 u2 u3 u4 u5 u6 u7) b #[u0, u1, u2, u3, u4, u5, u6, u7] T := by
  have := (((((((h.set 0 u0).set 1 u1).set 2 u2).set 3 u3).set 4 u4).set 5 u5).set 6 u6).set 7 u7
  simpa [put8] using this
theorem put8_other (w : World) (b : Nat) (u0 u1 u2 u3 u4 u5 u6 u7 : Value) (g : Nat) (hg : g ≠ b) : (put8 w b u0 u1 u2 u3 u4 u5 u6 u7).heap[g]? = w.heap[g]? := by
  unfold put8
  rw [Below.heap_setCell _ _ _ _ (by exact hg), Below.heap_setCell _ _ _ _ (by exact hg), Below.heap_setCell _ _ _ _ (by exact hg), Below.heap_setCell _ _ _ _ (by exact hg), Below.heap_setCell _ _ _ _ (by exact hg), Below.heap_setCell _ _ _ _ (by exact hg), Below.heap_setCell _ _ _ _ (by exact hg), Below.heap_setCell _ _ _ _ (by exact hg)]
theorem put8_below {B : Nat} {a w : World} (h : Below B a w) {b : Nat} (hb : B ≤ b) (u0 u1 u2 u3 u4 u5 u6 u7 : Value) : Below B a (put8 w b u0 u1 u2 u3 u4 u5 u6 u7) :=
  (((((((h.setCell hb _).setCell hb _).setCell hb _).setCell hb _).setCell hb _).setCell hb _).setCell hb _).setCell hb _

/-- A page in a block of its own. -/
def PBox (w : World) (b : Nat) (p : Pg) (kv vv dv : Value) : Prop := Blk w b (pgc p kv vv dv) 47
section
variable {w w' : World} {b : Nat} {p : Pg} {kv vv dv : Value}
theorem PBox.cells (h : PBox w b p kv vv dv) : w.cell? ⟨b, 0, none⟩ = some (.int .i64 p.kind) ∧ w.cell? ⟨b, 1, none⟩ = some kv ∧ w.cell? ⟨b, 2, none⟩ = some vv ∧ w.cell? ⟨b, 3, none⟩ = some dv ∧ w.cell? ⟨b, 4, none⟩ = some (.int .i64 p.root) ∧ w.cell? ⟨b, 5, none⟩ = some (.int .i64 p.next) ∧ w.cell? ⟨b, 6, none⟩ = some (.int .i64 p.size) ∧ w.cell? ⟨b, 7, none⟩ = some (.int .i64 p.idle) :=
  ⟨Blk.cell h 0, Blk.cell h 1, Blk.cell h 2, Blk.cell h 3, Blk.cell h 4, Blk.cell h 5, Blk.cell h 6, Blk.cell h 7⟩
theorem PBox.frozen (h : PBox w b p kv vv dv) (i : Nat) : w.frozen? ⟨b, i, none⟩ = false := Blk.frozen h i
theorem PBox.below (h : PBox w b p kv vv dv) (hb : Below w.heap.size w w') : PBox w' b p kv vv dv := Blk.of h (hb.block _ (Blk.lt h))
end

def samePg (p q : Pg) : Bool := decide (p.kind = q.kind) && sameNum p q && decide (p.keys = q.keys) && decide (p.vals = q.vals) && decide (p.kids = q.kids)
theorem samePg_iff (p q : Pg) : samePg p q = true ↔ p = q := by
  unfold samePg sameNum
  simp only [Bool.and_eq_true, decide_eq_true_eq]
  constructor
  · rintro ⟨⟨⟨⟨h1, ⟨⟨h2, h3⟩, h4⟩, h5⟩, h6⟩, h7⟩, h8⟩
    cases p
    cases q
    simp_all
  · rintro rfl
    simp

set_option maxHeartbeats 4000000 in
theorem psame_any (p q : Pg) (kv vv dv kv' vv' dv' : Value) (w : World) (hp : PgAt w p kv vv dv) (hq : PgAt w q kv' vv' dv') :
    Calls Tryz.prog 40 #[pgv p kv vv dv, pgv q kv' vv' dv'] w fun e w' => e = .returned (.bool (samePg p q)) ∧ Below w.heap.size w w' := by
  have HP : Hid (PgAt w p kv vv dv) := hp
  have HQ : Hid (PgAt w q kv' vv' dv') := hq
  obtain ⟨ka, kc, hka⟩ := hp.keys.form
  obtain ⟨va, vc, hva⟩ := hp.vals.form
  obtain ⟨da, dc, hda⟩ := hp.kids.form
  obtain ⟨ka', kc', hka'⟩ := hq.keys.form
  obtain ⟨va', vc', hva'⟩ := hq.vals.form
  obtain ⟨da', dc', hda'⟩ := hq.kids.form
  subst hka hva hda hka' hva' hda'
  generalize (sv p.keys).length = kn at *
  generalize (sv p.vals).length = vn at *
  generalize (iv p.kids).length = dn at *
  generalize (sv q.keys).length = kn' at *
  generalize (sv q.vals).length = vn' at *
  generalize (iv q.kids).length = dn' at *
  obtain ⟨b1, hb1⟩ : ∃ b, (p.kind == q.kind) = b := ⟨_, rfl⟩
  obtain ⟨b2, hb2⟩ : ∃ b, sameNum p q = b := ⟨_, rfl⟩
  obtain ⟨b3, hb3⟩ : ∃ b, decide (p.keys = q.keys) = b := ⟨_, rfl⟩
  obtain ⟨b4, hb4⟩ : ∃ b, decide (p.vals = q.vals) = b := ⟨_, rfl⟩
  obtain ⟨b5, hb5⟩ : ∃ b, decide (p.kids = q.kids) = b := ⟨_, rfl⟩
  have hres : samePg p q = (b1 && b2 && b3 && b4 && b5) := by unfold samePg; rw [← hb1, hb2, hb3, hb4, hb5]; rfl
  rw [hres]
  have H2 : Hid (∀ W, Calls Tryz.prog 73 #[pgv p (.slice ka kn kc) (.slice va vn vc) (.slice da dn dc), pgv q (.slice ka' kn' kc') (.slice va' vn' vc') (.slice da' dn' dc')] W fun e w' => e = .returned (.bool b2) ∧ Below W.heap.size W w') := fun W => by rw [← hb2]; exact sameNumbers_any p q _ _ _ _ _ _ _ _ _ _ _ _ _ _ _ _ _ _ W
  have H3 : Hid (∀ W, Below w.heap.size w W → Calls Tryz.prog 89 #[.slice ka kn kc, .slice ka' kn' kc'] W fun e w' => e = .returned (.bool b3) ∧ Below W.heap.size W w') := fun W hW => by rw [← hb3]; exact equalS_any _ _ _ _ W (HP.out.keys.below hW) (HQ.out.keys.below hW)
  have H4 : Hid (∀ W, Below w.heap.size w W → Calls Tryz.prog 89 #[.slice va vn vc, .slice va' vn' vc'] W fun e w' => e = .returned (.bool b4) ∧ Below W.heap.size W w') := fun W hW => by rw [← hb4]; exact equalS_any _ _ _ _ W (HP.out.vals.below hW) (HQ.out.vals.below hW)
  have H5 : Hid (∀ W, Below w.heap.size w W → Calls Tryz.prog 90 #[.slice da dn dc, .slice da' dn' dc'] W fun e w' => e = .returned (.bool b5) ∧ Below W.heap.size W w') := fun W hW => by rw [← hb5]; exact equalI_any _ _ _ _ W (HP.out.kids.below hW) (HQ.out.kids.below hW)
  have HE0 : Hid (∀ o o', Below w.heap.size w ((w.alloc o).alloc o')) := fun o o' => ((Below.refl _ _).alloc (Nat.le_refl _) _).alloc (by simp) _
  have HX : Hid (∀ W, PBox W w.heap.size p (.slice ka kn kc) (.slice va vn vc) (.slice da dn dc) ∧ PBox W (w.heap.size + 1) q (.slice ka' kn' kc') (.slice va' vn' vc') (.slice da' dn' dc') ∧ Below w.heap.size w W → ∀ W', Below W.heap.size W W' → PBox W' w.heap.size p (.slice ka kn kc) (.slice va vn vc) (.slice da dn dc) ∧ PBox W' (w.heap.size + 1) q (.slice ka' kn' kc') (.slice va' vn' vc') (.slice da' dn' dc') ∧ Below w.heap.size w W') := fun W h W' hb => ⟨h.1.below hb, h.2.1.below hb, h.2.2.trans (hb.mono h.2.2.size)⟩
  have HX0 : Hid (PBox ((w.alloc (.cells (pgc p (.slice ka kn kc) (.slice va vn vc) (.slice da dn dc)) 47)).alloc (.cells (pgc q (.slice ka' kn' kc') (.slice va' vn' vc') (.slice da' dn' dc')) 47)) w.heap.size p (.slice ka kn kc) (.slice va vn vc) (.slice da dn dc) ∧ PBox ((w.alloc (.cells (pgc p (.slice ka kn kc) (.slice va vn vc) (.slice da dn dc)) 47)).alloc (.cells (pgc q (.slice ka' kn' kc') (.slice va' vn' vc') (.slice da' dn' dc')) 47)) (w.heap.size + 1) q (.slice ka' kn' kc') (.slice va' vn' vc') (.slice da' dn' dc') ∧ Below w.heap.size w ((w.alloc (.cells (pgc p (.slice ka kn kc) (.slice va vn vc) (.slice da dn dc)) 47)).alloc (.cells (pgc q (.slice ka' kn' kc') (.slice va' vn' vc') (.slice da' dn' dc')) 47))) := by
    exact ⟨(Blk.new _ _ _).alloc _, blk_two _ _ _ _ _, HE0.out _ _⟩
  unfold pgc at HX0
  clear hres hb2 hb3 hb4 hb5 HP HQ hp hq
  unfold pgv at *
  cases b1 with
  | false =>
    go_enter Tryz.func40, Tryz.ntmps40
    go_wp2
    go_ret
    exact ⟨rfl, HE0.out _ _⟩
  | true =>
    go_enter Tryz.func40, Tryz.ntmps40
    go_wp2_with fail
    refine (H2.out _).mono ?_
    rintro e w1 ⟨rfl, x1⟩
    have X1 : Hid (_ ∧ _ ∧ _) := HX.out _ HX0.out _ x1
    clear x1 HX0 H2 hb1
    obtain ⟨y0, y1, y2, y3, y4, y5, y6, y7⟩ := X1.out.1.cells
    obtain ⟨z0, z1, z2, z3, z4, z5, z6, z7⟩ := X1.out.2.1.cells
    cases b2 with
    | false =>
      go_wp2
      go_ret
      exact ⟨rfl, X1.out.2.2⟩
    | true =>
      go_wp2_with fail
      refine (H3.out _ X1.out.2.2).mono ?_
      rintro e w2 ⟨rfl, x2⟩
      have X2 : Hid (_ ∧ _ ∧ _) := HX.out _ X1.out _ x2
      clear x2 X1 H3 y0 y1 y2 y3 y4 y5 y6 y7 z0 z1 z2 z3 z4 z5 z6 z7
      obtain ⟨y0, y1, y2, y3, y4, y5, y6, y7⟩ := X2.out.1.cells
      obtain ⟨z0, z1, z2, z3, z4, z5, z6, z7⟩ := X2.out.2.1.cells
      cases b3 with
      | false =>
        go_wp2
        go_ret
        exact ⟨rfl, X2.out.2.2⟩
      | true =>
        go_wp2_with fail
        refine (H4.out _ X2.out.2.2).mono ?_
        rintro e w3 ⟨rfl, x3⟩
        have X3 : Hid (_ ∧ _ ∧ _) := HX.out _ X2.out _ x3
        clear x3 X2 H4 y0 y1 y2 y3 y4 y5 y6 y7 z0 z1 z2 z3 z4 z5 z6 z7
        obtain ⟨y0, y1, y2, y3, y4, y5, y6, y7⟩ := X3.out.1.cells
        obtain ⟨z0, z1, z2, z3, z4, z5, z6, z7⟩ := X3.out.2.1.cells
        cases b4 with
        | false =>
          go_wp2
          go_ret
          exact ⟨rfl, X3.out.2.2⟩
        | true =>
          go_wp2_with fail
          refine (H5.out _ X3.out.2.2).mono ?_
          rintro e w4 ⟨rfl, x4⟩
          have X4 : Hid (_ ∧ _ ∧ _) := HX.out _ X3.out _ x4
          clear x4 X3 H5 y0 y1 y2 y3 y4 y5 y6 y7 z0 z1 z2 z3 z4 z5 z6 z7
          go_wp2
          go_ret
          exact ⟨rfl, X4.out.2.2⟩

end Go.Proofs.YtbgofajldkblmaaGreat

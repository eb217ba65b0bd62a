/- msg: what a Reader hands to a message, walked. Own lemmas, no statement. -/
import Derived.Test.YtefmeeffkjendaaMsg2
import Derived.Test.YtefmeeffkjendaaPutL
import Derived.Test.YtefmeeffkjendaaWNumTids
set_option linter.unusedSimpArgs false
set_option linter.unusedVariables false
namespace Go.Proofs.Ytefmeeffkjendaa
open Go.ChangeShapes Go.WideShapes Go.ChangeAt Go.RowKit

theorem Blk.gr {p g : Nat} {c : Array Value} {T : TypeId} {W W' : World} (h : Blk W p c T) (hg : W.grownBy W' (some g)) (hn : p ≠ g) : Blk W' p c T := h.of (hg.block _ h.lt (fun e => hn (by cases e; rfl)))
theorem Rdr.set {W : World} {g b p : Nat} {l : List UInt8} {err : Nat} (h : Rdr W g b l err) (h1 : g ≠ p) (h2 : b ≠ p) (i : Nat) (u : Value) : Rdr (W.setCell ⟨p, i, none⟩ u) g b l err :=
  h.kept (by simp) (Below.heap_setCell _ _ _ _ (by exact h1)) (Below.heap_setCell _ _ _ _ (by exact h2))
/-- Only the Reader's block and one more have turned. -/
def Two (g p : Nat) (w w' : World) : Prop := Chg (fun i => i = g ∨ i = p) w w'
theorem Two.grown {g p : Nat} {a w w' : World} (h : Two g p a w) (hg : w.grownBy w' (some g)) : Two g p a w' := Chg.grown h hg (fun k e _ => by cases e; exact .inl rfl)
theorem Two.set {g p : Nat} {a w : World} (h : Two g p a w) (i : Nat) (u : Value) : Two g p a (w.setCell ⟨p, i, none⟩ u) := Chg.setCell h _ (fun _ => .inr rfl) u
theorem Two.refl (g p : Nat) (w : World) : Two g p w w := Chg.refl _ _
theorem Two.below {g p : Nat} {a w w' : World} (h : Two g p a w) (hb : Below w.heap.size w w') : Two g p a w' := Chg.trans h (Chg.of_below (S := fun _ => False) hb (fun i hi h => by omega)) (fun _ _ e => e.elim)
theorem rintR (M : Nat) (g b : Nat) (l : List UInt8) (err : Nat) (w : World) (h : Rdr w g b l err) : ∃ v l1 e1, rint M l err = (v, l1, e1) ∧ (0 ≤ v ∧ v ≤ M) ∧ Calls Try.prog 29 #[.pointer (some ⟨g, 0, none⟩), .int .u64 (M : Int)] w fun e w' => e = .returned (.int .u64 v) ∧ Rdr w' g b l1 e1 ∧ w.grownBy w' (some g) := by
  have := rnum_le l err M
  exact ⟨_, _, _, rfl, ⟨Int.natCast_nonneg _, Int.ofNat_le.2 this⟩, num_any g b l err M w h⟩
theorem wf_i64_of {n : Int} (h0 : 0 ≤ n) (h1 : n ≤ 9223372036854775807) : (Lit.int .i64 n).wf = true := by
  simp [Lit.wf, IntKind.min, IntKind.max, IntKind.signed, IntKind.bits]
  omega
theorem rtext_len (l : List UInt8) (err M : Nat) : (rtext l err M).1.length ≤ M := by
  have := rnum_le l err M
  unfold rtext
  split
  · simp
  · split
    · simp
    · simp only [List.length_take]; omega
theorem rstrR (M : Nat) (hM : M < 1000000) (g b : Nat) (l : List UInt8) (err : Nat) (w : World) (h : Rdr w g b l err) : ∃ v l1 e1, rstr M l err = (v, l1, e1) ∧ v.size ≤ M ∧ Calls Try.prog 41 #[.pointer (some ⟨g, 0, none⟩), .int .i64 (M : Int)] w fun e w' => e = .returned (.string v) ∧ Rdr w' g b l1 e1 ∧ w.grownBy w' (some g) :=
  ⟨_, _, _, rfl, rtext_len l err M, text_read g b l err (M : Int) w h (wf_i64_of (by omega) (by omega))⟩
theorem rtidR (g b : Nat) (l : List UInt8) (err : Nat) (w : World) (h : Rdr w g b l err) : ∃ x y l1 e1, rtidI l err = ((x, y), l1, e1) ∧ (0 ≤ x ∧ x < 18446744073709551616) ∧ (0 ≤ y ∧ y < 18446744073709551616) ∧ Calls Try.prog 31 #[.pointer (some ⟨g, 0, none⟩)] w fun e w' => e = .returned (.agg #[.int .u64 x, .int .i64 y]) ∧ Rdr w' g b l1 e1 ∧ w.grownBy w' (some g) := by
  refine ⟨_, _, _, _, rfl, ?_, ?_, tid_read g b l err w h⟩
  · unfold rtid
    have h2 := rnum_facts l err 1099511627776
    split
    · simp
    · simp only; omega
  · unfold rtid
    have h2 := rnum_facts (rnum l err 1099511627776).2.1 (rnum l err 1099511627776).2.2 63
    split
    · simp
    · simp only; omega
set_option maxHeartbeats 1000000 in
theorem rnodeR (g b : Nat) (l : List UInt8) (err : Nat) (w : World) (h : Rdr w g b l err) : ∃ v l1 e1, rint 63 l err = (v, l1, e1) ∧ (0 ≤ v ∧ v ≤ 63) ∧ Calls Try.prog 30 #[.pointer (some ⟨g, 0, none⟩)] w fun e w' => e = .returned (.int .i64 v) ∧ Rdr w' g b l1 e1 ∧ w.grownBy w' (some g) := by
  obtain ⟨v, l1, e1, hr, hv, hc⟩ := rintR 63 g b l err w h
  refine ⟨v, l1, e1, hr, hv, ?_⟩
  have HC : Hid (Calls _ _ _ _ _) := hc
  have hw : IntKind.i64.wrap v = v := by rw [IntKind.wrap_i64]; omega
  clear hr hv hc h
  go_enter Try.func30, Try.ntmps30
  go_wp2_with fail
  refine HC.out.mono ?_
  rintro e w1 ⟨rfl, h1, h2⟩
  have H1 : Hid (Rdr w1 g b l1 e1) := h1
  have H2 : Hid (w.grownBy w1 (some g)) := h2
  clear h1 h2 HC
  go_wp2
  go_ret
  exact ⟨rfl, H1.out, H2.out⟩
/-- What read leaves. -/
def RdM (R : MsgQ × List UInt8 × Nat) (p g b : Nat) (w : World) (e : Ending) (w' : World) : Prop :=
  e = .returned (.tuple #[]) ∧ Blk w' p #[.int .i64 R.1.kind, .int .i64 R.1.frm, .int .i64 R.1.dst, .int .u64 R.1.num, .int .i64 R.1.node, .int .u64 R.1.life, .int .i64 R.1.n, .int .i64 R.1.op, .string R.1.key, .string R.1.val, .bool R.1.has, .int .i64 R.1.code] 27 ∧ Rdr w' g b R.2.1 R.2.2 ∧ Two g p w w'
set_option maxRecDepth 100000 in
set_option maxHeartbeats 8000000 in
theorem read2_any (p g b : Nat) (l : List UInt8) (err : Nat) (kind frm dst num node : Int) (w : World) (h : Rdr w g b l err) (hb : Blk w p #[.int .i64 kind, .int .i64 frm, .int .i64 dst, .int .u64 num, .int .i64 node, .int .u64 0, .int .i64 0, .int .i64 0, .string ⟨#[]⟩, .string ⟨#[]⟩, .bool false, .int .i64 0] 27) (hpg : p ≠ g) (hpb : p ≠ b) (hk : kind = 2) : Calls Try.prog 32 #[.pointer (some ⟨p, 0, none⟩), .pointer (some ⟨g, 0, none⟩)] w (RdM (rbody kind frm dst (num, node) l err) p g b w) := by
  have hl : hasLifeB kind = true := decide_eq_true (by omega)
  have hn : hasNB kind = false := decide_eq_false (by omega)
  have hc : hasCodeB kind = false := decide_eq_false (by omega)
  have e3 : (kind == 3) = false := by simp [hk]
  have e4 : (kind == 4) = false := by simp [hk]
  have HK : Hid (kind = 2) := hk
  have HR0 : Hid (Rdr w g b l err) := h
  have HB0 : Hid (Blk w p #[.int .i64 kind, .int .i64 frm, .int .i64 dst, .int .u64 num, .int .i64 node, .int .u64 0, .int .i64 0, .int .i64 0, .string ⟨#[]⟩, .string ⟨#[]⟩, .bool false, .int .i64 0] 27) := hb
  have HT0 : Hid (Two g p w w) := Two.refl _ _ _
  have HD : Hid (p ≠ g ∧ p ≠ b ∧ g ≠ p ∧ b ≠ p) := ⟨hpg, hpb, hpg.symm, hpb.symm⟩
  clear h hb hpg hpb hk
  go_enter Try.func32, Try.ntmps32
  have z0 : w.cell? ⟨p, 0, none⟩ = some (.int .i64 kind) := HB0.out.cell 0
  have z1 : w.cell? ⟨p, 1, none⟩ = some (.int .i64 frm) := HB0.out.cell 1
  have z2 : w.cell? ⟨p, 2, none⟩ = some (.int .i64 dst) := HB0.out.cell 2
  have z3 : w.cell? ⟨p, 3, none⟩ = some (.int .u64 num) := HB0.out.cell 3
  have z4 : w.cell? ⟨p, 4, none⟩ = some (.int .i64 node) := HB0.out.cell 4
  have z5 : w.cell? ⟨p, 5, none⟩ = some (.int .u64 0) := HB0.out.cell 5
  have z6 : w.cell? ⟨p, 6, none⟩ = some (.int .i64 0) := HB0.out.cell 6
  have z7 : w.cell? ⟨p, 7, none⟩ = some (.int .i64 0) := HB0.out.cell 7
  have z8 : w.cell? ⟨p, 8, none⟩ = some (.string ⟨#[]⟩) := HB0.out.cell 8
  have z9 : w.cell? ⟨p, 9, none⟩ = some (.string ⟨#[]⟩) := HB0.out.cell 9
  have z10 : w.cell? ⟨p, 10, none⟩ = some (.bool false) := HB0.out.cell 10
  have z11 : w.cell? ⟨p, 11, none⟩ = some (.int .i64 0) := HB0.out.cell 11
  have f4 : w.frozen? ⟨p, 4, none⟩ = false := HB0.out.frozen 4
  have f5 : w.frozen? ⟨p, 5, none⟩ = false := HB0.out.frozen 5
  have f6 : w.frozen? ⟨p, 6, none⟩ = false := HB0.out.frozen 6
  have f7 : w.frozen? ⟨p, 7, none⟩ = false := HB0.out.frozen 7
  have f8 : w.frozen? ⟨p, 8, none⟩ = false := HB0.out.frozen 8
  have f9 : w.frozen? ⟨p, 9, none⟩ = false := HB0.out.frozen 9
  have f10 : w.frozen? ⟨p, 10, none⟩ = false := HB0.out.frozen 10
  have f11 : w.frozen? ⟨p, 11, none⟩ = false := HB0.out.frozen 11
  have HX : Hid (Calls Try.prog 15 #[.agg #[.int .i64 kind, .int .i64 frm, .int .i64 dst, .int .u64 num, .int .i64 node, .int .u64 0, .int .i64 0, .int .i64 0, .string ⟨#[]⟩, .string ⟨#[]⟩, .bool false, .int .i64 0]] w fun e w' => e = .returned (.bool true) ∧ Below w.heap.size w w') := by
    have h := hasLife_any ((⟨kind, frm, dst, num, node, 0, 0, 0, ⟨#[]⟩, ⟨#[]⟩, false, 0⟩ : MsgQ)) w
    simp only [hl] at h
    exact h
  go_wp2_with fail
  refine HX.out.mono ?_
  rintro e u1 ⟨rfl, y⟩
  have HR1 : Hid (Rdr u1 g b l err) := HR0.out.below y
  have HB1 : Hid (Blk u1 p #[.int .i64 kind, .int .i64 frm, .int .i64 dst, .int .u64 num, .int .i64 node, .int .u64 0, .int .i64 0, .int .i64 0, .string ⟨#[]⟩, .string ⟨#[]⟩, .bool false, .int .i64 0] 27) := HB0.out.of (y.block _ HB0.out.lt)
  have HT1 : Hid (Two g p w u1) := HT0.out.below y
  clear y HX HR0 HB0 HT0
  clear z0 z1 z2 z3 z4 z5 z6 z7 z8 z9 z10 z11 f4 f5 f6 f7 f8 f9 f10 f11
  have z0 : u1.cell? ⟨p, 0, none⟩ = some (.int .i64 kind) := HB1.out.cell 0
  have z1 : u1.cell? ⟨p, 1, none⟩ = some (.int .i64 frm) := HB1.out.cell 1
  have z2 : u1.cell? ⟨p, 2, none⟩ = some (.int .i64 dst) := HB1.out.cell 2
  have z3 : u1.cell? ⟨p, 3, none⟩ = some (.int .u64 num) := HB1.out.cell 3
  have z4 : u1.cell? ⟨p, 4, none⟩ = some (.int .i64 node) := HB1.out.cell 4
  have z5 : u1.cell? ⟨p, 5, none⟩ = some (.int .u64 0) := HB1.out.cell 5
  have z6 : u1.cell? ⟨p, 6, none⟩ = some (.int .i64 0) := HB1.out.cell 6
  have z7 : u1.cell? ⟨p, 7, none⟩ = some (.int .i64 0) := HB1.out.cell 7
  have z8 : u1.cell? ⟨p, 8, none⟩ = some (.string ⟨#[]⟩) := HB1.out.cell 8
  have z9 : u1.cell? ⟨p, 9, none⟩ = some (.string ⟨#[]⟩) := HB1.out.cell 9
  have z10 : u1.cell? ⟨p, 10, none⟩ = some (.bool false) := HB1.out.cell 10
  have z11 : u1.cell? ⟨p, 11, none⟩ = some (.int .i64 0) := HB1.out.cell 11
  have f4 : u1.frozen? ⟨p, 4, none⟩ = false := HB1.out.frozen 4
  have f5 : u1.frozen? ⟨p, 5, none⟩ = false := HB1.out.frozen 5
  have f6 : u1.frozen? ⟨p, 6, none⟩ = false := HB1.out.frozen 6
  have f7 : u1.frozen? ⟨p, 7, none⟩ = false := HB1.out.frozen 7
  have f8 : u1.frozen? ⟨p, 8, none⟩ = false := HB1.out.frozen 8
  have f9 : u1.frozen? ⟨p, 9, none⟩ = false := HB1.out.frozen 9
  have f10 : u1.frozen? ⟨p, 10, none⟩ = false := HB1.out.frozen 10
  have f11 : u1.frozen? ⟨p, 11, none⟩ = false := HB1.out.frozen 11
  obtain ⟨v1, l1, e1, hq, hv1, hx⟩ := rintR 1099511627776 g b l err u1 HR1.out
  have HQ1 : Hid (rint 1099511627776 l err = (v1, l1, e1)) := hq
  have HX : Hid (Calls _ _ _ _ _) := hx
  have hw1 : IntKind.i64.wrap v1 = v1 := by rw [IntKind.wrap_i64]; omega
  clear hq hx hv1
  go_wp2_with fail
  refine HX.out.mono ?_
  rintro e u2 ⟨rfl, h1, h2⟩
  have HR2 : Hid (Rdr u2 g b l1 e1) := h1
  have HB2 : Hid (Blk u2 p #[.int .i64 kind, .int .i64 frm, .int .i64 dst, .int .u64 num, .int .i64 node, .int .u64 0, .int .i64 0, .int .i64 0, .string ⟨#[]⟩, .string ⟨#[]⟩, .bool false, .int .i64 0] 27) := HB1.out.gr h2 HD.out.1
  have HT2 : Hid (Two g p w u2) := HT1.out.grown h2
  clear h1 h2 HX HR1 HB1 HT1
  clear z0 z1 z2 z3 z4 z5 z6 z7 z8 z9 z10 z11 f4 f5 f6 f7 f8 f9 f10 f11
  have z0 : u2.cell? ⟨p, 0, none⟩ = some (.int .i64 kind) := HB2.out.cell 0
  have z1 : u2.cell? ⟨p, 1, none⟩ = some (.int .i64 frm) := HB2.out.cell 1
  have z2 : u2.cell? ⟨p, 2, none⟩ = some (.int .i64 dst) := HB2.out.cell 2
  have z3 : u2.cell? ⟨p, 3, none⟩ = some (.int .u64 num) := HB2.out.cell 3
  have z4 : u2.cell? ⟨p, 4, none⟩ = some (.int .i64 node) := HB2.out.cell 4
  have z5 : u2.cell? ⟨p, 5, none⟩ = some (.int .u64 0) := HB2.out.cell 5
  have z6 : u2.cell? ⟨p, 6, none⟩ = some (.int .i64 0) := HB2.out.cell 6
  have z7 : u2.cell? ⟨p, 7, none⟩ = some (.int .i64 0) := HB2.out.cell 7
  have z8 : u2.cell? ⟨p, 8, none⟩ = some (.string ⟨#[]⟩) := HB2.out.cell 8
  have z9 : u2.cell? ⟨p, 9, none⟩ = some (.string ⟨#[]⟩) := HB2.out.cell 9
  have z10 : u2.cell? ⟨p, 10, none⟩ = some (.bool false) := HB2.out.cell 10
  have z11 : u2.cell? ⟨p, 11, none⟩ = some (.int .i64 0) := HB2.out.cell 11
  have f4 : u2.frozen? ⟨p, 4, none⟩ = false := HB2.out.frozen 4
  have f5 : u2.frozen? ⟨p, 5, none⟩ = false := HB2.out.frozen 5
  have f6 : u2.frozen? ⟨p, 6, none⟩ = false := HB2.out.frozen 6
  have f7 : u2.frozen? ⟨p, 7, none⟩ = false := HB2.out.frozen 7
  have f8 : u2.frozen? ⟨p, 8, none⟩ = false := HB2.out.frozen 8
  have f9 : u2.frozen? ⟨p, 9, none⟩ = false := HB2.out.frozen 9
  have f10 : u2.frozen? ⟨p, 10, none⟩ = false := HB2.out.frozen 10
  have f11 : u2.frozen? ⟨p, 11, none⟩ = false := HB2.out.frozen 11
  have HB3 : Hid (Blk (u2.setCell ⟨p, 5, none⟩ (.int .u64 v1)) p #[.int .i64 kind, .int .i64 frm, .int .i64 dst, .int .u64 num, .int .i64 node, .int .u64 v1, .int .i64 0, .int .i64 0, .string ⟨#[]⟩, .string ⟨#[]⟩, .bool false, .int .i64 0] 27) := by have h := (HB2.out.set 5 (.int .u64 v1)); simp only [List.setIfInBounds_toArray, List.set_cons_succ, List.set_cons_zero] at h; exact h
  have HR3 : Hid (Rdr (u2.setCell ⟨p, 5, none⟩ (.int .u64 v1)) g b l1 e1) := (HR2.out.set HD.out.2.2.1 HD.out.2.2.2 5 (.int .u64 v1))
  have HT3 : Hid (Two g p w (u2.setCell ⟨p, 5, none⟩ (.int .u64 v1))) := (HT2.out.set 5 (.int .u64 v1))
  go_upto_region 2 with fail
  generalize (u2.setCell ⟨p, 5, none⟩ (.int .u64 v1)) = u3 at *
  clear HB2 HR2 HT2
  clear z0 z1 z2 z3 z4 z5 z6 z7 z8 z9 z10 z11 f4 f5 f6 f7 f8 f9 f10 f11
  have z0 : u3.cell? ⟨p, 0, none⟩ = some (.int .i64 kind) := HB3.out.cell 0
  have z1 : u3.cell? ⟨p, 1, none⟩ = some (.int .i64 frm) := HB3.out.cell 1
  have z2 : u3.cell? ⟨p, 2, none⟩ = some (.int .i64 dst) := HB3.out.cell 2
  have z3 : u3.cell? ⟨p, 3, none⟩ = some (.int .u64 num) := HB3.out.cell 3
  have z4 : u3.cell? ⟨p, 4, none⟩ = some (.int .i64 node) := HB3.out.cell 4
  have z5 : u3.cell? ⟨p, 5, none⟩ = some (.int .u64 v1) := HB3.out.cell 5
  have z6 : u3.cell? ⟨p, 6, none⟩ = some (.int .i64 0) := HB3.out.cell 6
  have z7 : u3.cell? ⟨p, 7, none⟩ = some (.int .i64 0) := HB3.out.cell 7
  have z8 : u3.cell? ⟨p, 8, none⟩ = some (.string ⟨#[]⟩) := HB3.out.cell 8
  have z9 : u3.cell? ⟨p, 9, none⟩ = some (.string ⟨#[]⟩) := HB3.out.cell 9
  have z10 : u3.cell? ⟨p, 10, none⟩ = some (.bool false) := HB3.out.cell 10
  have z11 : u3.cell? ⟨p, 11, none⟩ = some (.int .i64 0) := HB3.out.cell 11
  have f4 : u3.frozen? ⟨p, 4, none⟩ = false := HB3.out.frozen 4
  have f5 : u3.frozen? ⟨p, 5, none⟩ = false := HB3.out.frozen 5
  have f6 : u3.frozen? ⟨p, 6, none⟩ = false := HB3.out.frozen 6
  have f7 : u3.frozen? ⟨p, 7, none⟩ = false := HB3.out.frozen 7
  have f8 : u3.frozen? ⟨p, 8, none⟩ = false := HB3.out.frozen 8
  have f9 : u3.frozen? ⟨p, 9, none⟩ = false := HB3.out.frozen 9
  have f10 : u3.frozen? ⟨p, 10, none⟩ = false := HB3.out.frozen 10
  have f11 : u3.frozen? ⟨p, 11, none⟩ = false := HB3.out.frozen 11
  have HX : Hid (Calls Try.prog 17 #[.agg #[.int .i64 kind, .int .i64 frm, .int .i64 dst, .int .u64 num, .int .i64 node, .int .u64 v1, .int .i64 0, .int .i64 0, .string ⟨#[]⟩, .string ⟨#[]⟩, .bool false, .int .i64 0]] u3 fun e w' => e = .returned (.bool false) ∧ Below u3.heap.size u3 w') := by
    have h := hasN_any ((⟨kind, frm, dst, num, node, v1, 0, 0, ⟨#[]⟩, ⟨#[]⟩, false, 0⟩ : MsgQ)) u3
    simp only [hn] at h
    exact h
  go_wp2_with fail
  refine HX.out.mono ?_
  rintro e u4 ⟨rfl, y⟩
  have HR4 : Hid (Rdr u4 g b l1 e1) := HR3.out.below y
  have HB4 : Hid (Blk u4 p #[.int .i64 kind, .int .i64 frm, .int .i64 dst, .int .u64 num, .int .i64 node, .int .u64 v1, .int .i64 0, .int .i64 0, .string ⟨#[]⟩, .string ⟨#[]⟩, .bool false, .int .i64 0] 27) := HB3.out.of (y.block _ HB3.out.lt)
  have HT4 : Hid (Two g p w u4) := HT3.out.below y
  clear y HX HR3 HB3 HT3
  clear z0 z1 z2 z3 z4 z5 z6 z7 z8 z9 z10 z11 f4 f5 f6 f7 f8 f9 f10 f11
  have z0 : u4.cell? ⟨p, 0, none⟩ = some (.int .i64 kind) := HB4.out.cell 0
  have z1 : u4.cell? ⟨p, 1, none⟩ = some (.int .i64 frm) := HB4.out.cell 1
  have z2 : u4.cell? ⟨p, 2, none⟩ = some (.int .i64 dst) := HB4.out.cell 2
  have z3 : u4.cell? ⟨p, 3, none⟩ = some (.int .u64 num) := HB4.out.cell 3
  have z4 : u4.cell? ⟨p, 4, none⟩ = some (.int .i64 node) := HB4.out.cell 4
  have z5 : u4.cell? ⟨p, 5, none⟩ = some (.int .u64 v1) := HB4.out.cell 5
  have z6 : u4.cell? ⟨p, 6, none⟩ = some (.int .i64 0) := HB4.out.cell 6
  have z7 : u4.cell? ⟨p, 7, none⟩ = some (.int .i64 0) := HB4.out.cell 7
  have z8 : u4.cell? ⟨p, 8, none⟩ = some (.string ⟨#[]⟩) := HB4.out.cell 8
  have z9 : u4.cell? ⟨p, 9, none⟩ = some (.string ⟨#[]⟩) := HB4.out.cell 9
  have z10 : u4.cell? ⟨p, 10, none⟩ = some (.bool false) := HB4.out.cell 10
  have z11 : u4.cell? ⟨p, 11, none⟩ = some (.int .i64 0) := HB4.out.cell 11
  have f4 : u4.frozen? ⟨p, 4, none⟩ = false := HB4.out.frozen 4
  have f5 : u4.frozen? ⟨p, 5, none⟩ = false := HB4.out.frozen 5
  have f6 : u4.frozen? ⟨p, 6, none⟩ = false := HB4.out.frozen 6
  have f7 : u4.frozen? ⟨p, 7, none⟩ = false := HB4.out.frozen 7
  have f8 : u4.frozen? ⟨p, 8, none⟩ = false := HB4.out.frozen 8
  have f9 : u4.frozen? ⟨p, 9, none⟩ = false := HB4.out.frozen 9
  have f10 : u4.frozen? ⟨p, 10, none⟩ = false := HB4.out.frozen 10
  have f11 : u4.frozen? ⟨p, 11, none⟩ = false := HB4.out.frozen 11
  have HX : Hid (Calls Try.prog 19 #[.agg #[.int .i64 kind, .int .i64 frm, .int .i64 dst, .int .u64 num, .int .i64 node, .int .u64 v1, .int .i64 0, .int .i64 0, .string ⟨#[]⟩, .string ⟨#[]⟩, .bool false, .int .i64 0]] u4 fun e w' => e = .returned (.bool false) ∧ Below u4.heap.size u4 w') := by
    have h := hasCode_any ((⟨kind, frm, dst, num, node, v1, 0, 0, ⟨#[]⟩, ⟨#[]⟩, false, 0⟩ : MsgQ)) u4
    simp only [hc] at h
    exact h
  go_wp2_with fail
  refine HX.out.mono ?_
  rintro e u5 ⟨rfl, y⟩
  have HR5 : Hid (Rdr u5 g b l1 e1) := HR4.out.below y
  have HB5 : Hid (Blk u5 p #[.int .i64 kind, .int .i64 frm, .int .i64 dst, .int .u64 num, .int .i64 node, .int .u64 v1, .int .i64 0, .int .i64 0, .string ⟨#[]⟩, .string ⟨#[]⟩, .bool false, .int .i64 0] 27) := HB4.out.of (y.block _ HB4.out.lt)
  have HT5 : Hid (Two g p w u5) := HT4.out.below y
  clear y HX HR4 HB4 HT4
  clear z0 z1 z2 z3 z4 z5 z6 z7 z8 z9 z10 z11 f4 f5 f6 f7 f8 f9 f10 f11
  have z0 : u5.cell? ⟨p, 0, none⟩ = some (.int .i64 kind) := HB5.out.cell 0
  have z1 : u5.cell? ⟨p, 1, none⟩ = some (.int .i64 frm) := HB5.out.cell 1
  have z2 : u5.cell? ⟨p, 2, none⟩ = some (.int .i64 dst) := HB5.out.cell 2
  have z3 : u5.cell? ⟨p, 3, none⟩ = some (.int .u64 num) := HB5.out.cell 3
  have z4 : u5.cell? ⟨p, 4, none⟩ = some (.int .i64 node) := HB5.out.cell 4
  have z5 : u5.cell? ⟨p, 5, none⟩ = some (.int .u64 v1) := HB5.out.cell 5
  have z6 : u5.cell? ⟨p, 6, none⟩ = some (.int .i64 0) := HB5.out.cell 6
  have z7 : u5.cell? ⟨p, 7, none⟩ = some (.int .i64 0) := HB5.out.cell 7
  have z8 : u5.cell? ⟨p, 8, none⟩ = some (.string ⟨#[]⟩) := HB5.out.cell 8
  have z9 : u5.cell? ⟨p, 9, none⟩ = some (.string ⟨#[]⟩) := HB5.out.cell 9
  have z10 : u5.cell? ⟨p, 10, none⟩ = some (.bool false) := HB5.out.cell 10
  have z11 : u5.cell? ⟨p, 11, none⟩ = some (.int .i64 0) := HB5.out.cell 11
  have f4 : u5.frozen? ⟨p, 4, none⟩ = false := HB5.out.frozen 4
  have f5 : u5.frozen? ⟨p, 5, none⟩ = false := HB5.out.frozen 5
  have f6 : u5.frozen? ⟨p, 6, none⟩ = false := HB5.out.frozen 6
  have f7 : u5.frozen? ⟨p, 7, none⟩ = false := HB5.out.frozen 7
  have f8 : u5.frozen? ⟨p, 8, none⟩ = false := HB5.out.frozen 8
  have f9 : u5.frozen? ⟨p, 9, none⟩ = false := HB5.out.frozen 9
  have f10 : u5.frozen? ⟨p, 10, none⟩ = false := HB5.out.frozen 10
  have f11 : u5.frozen? ⟨p, 11, none⟩ = false := HB5.out.frozen 11
  go_wp2
  have HEQ : Hid (rbody kind frm dst (num, node) l err = (⟨kind, frm, dst, num, node, v1, 0, 0, ⟨#[]⟩, ⟨#[]⟩, false, 0⟩, l1, e1)) := by
    show _ = _
    have P3 : (kind = 3) = False := eq_false (by have := HK.out; omega)
    have P4 : (kind = 4) = False := eq_false (by have := HK.out; omega)
    simp only [rbody, rb, rlife, rn, rdo, rcode, rdid, rp, hl, hn, hc, P3, P4, if_true, if_false, Bool.false_eq_true, HQ1.out] <;> rfl
  go_end0
  rw [HEQ.out]
  exact ⟨rfl, HB5.out, HR5.out, HT5.out⟩
set_option maxRecDepth 100000 in
set_option maxHeartbeats 8000000 in
theorem read3_any (p g b : Nat) (l : List UInt8) (err : Nat) (kind frm dst num node : Int) (w : World) (h : Rdr w g b l err) (hb : Blk w p #[.int .i64 kind, .int .i64 frm, .int .i64 dst, .int .u64 num, .int .i64 node, .int .u64 0, .int .i64 0, .int .i64 0, .string ⟨#[]⟩, .string ⟨#[]⟩, .bool false, .int .i64 0] 27) (hpg : p ≠ g) (hpb : p ≠ b) (hk : kind = 3) : Calls Try.prog 32 #[.pointer (some ⟨p, 0, none⟩), .pointer (some ⟨g, 0, none⟩)] w (RdM (rbody kind frm dst (num, node) l err) p g b w) := by
  have hl : hasLifeB kind = true := decide_eq_true (by omega)
  have hn : hasNB kind = true := decide_eq_true (by omega)
  have hc : hasCodeB kind = false := decide_eq_false (by omega)
  have e3 : (kind == 3) = true := by simp [hk]
  have e4 : (kind == 4) = false := by simp [hk]
  have HK : Hid (kind = 3) := hk
  have HR0 : Hid (Rdr w g b l err) := h
  have HB0 : Hid (Blk w p #[.int .i64 kind, .int .i64 frm, .int .i64 dst, .int .u64 num, .int .i64 node, .int .u64 0, .int .i64 0, .int .i64 0, .string ⟨#[]⟩, .string ⟨#[]⟩, .bool false, .int .i64 0] 27) := hb
  have HT0 : Hid (Two g p w w) := Two.refl _ _ _
  have HD : Hid (p ≠ g ∧ p ≠ b ∧ g ≠ p ∧ b ≠ p) := ⟨hpg, hpb, hpg.symm, hpb.symm⟩
  clear h hb hpg hpb hk
  go_enter Try.func32, Try.ntmps32
  have z0 : w.cell? ⟨p, 0, none⟩ = some (.int .i64 kind) := HB0.out.cell 0
  have z1 : w.cell? ⟨p, 1, none⟩ = some (.int .i64 frm) := HB0.out.cell 1
  have z2 : w.cell? ⟨p, 2, none⟩ = some (.int .i64 dst) := HB0.out.cell 2
  have z3 : w.cell? ⟨p, 3, none⟩ = some (.int .u64 num) := HB0.out.cell 3
  have z4 : w.cell? ⟨p, 4, none⟩ = some (.int .i64 node) := HB0.out.cell 4
  have z5 : w.cell? ⟨p, 5, none⟩ = some (.int .u64 0) := HB0.out.cell 5
  have z6 : w.cell? ⟨p, 6, none⟩ = some (.int .i64 0) := HB0.out.cell 6
  have z7 : w.cell? ⟨p, 7, none⟩ = some (.int .i64 0) := HB0.out.cell 7
  have z8 : w.cell? ⟨p, 8, none⟩ = some (.string ⟨#[]⟩) := HB0.out.cell 8
  have z9 : w.cell? ⟨p, 9, none⟩ = some (.string ⟨#[]⟩) := HB0.out.cell 9
  have z10 : w.cell? ⟨p, 10, none⟩ = some (.bool false) := HB0.out.cell 10
  have z11 : w.cell? ⟨p, 11, none⟩ = some (.int .i64 0) := HB0.out.cell 11
  have f4 : w.frozen? ⟨p, 4, none⟩ = false := HB0.out.frozen 4
  have f5 : w.frozen? ⟨p, 5, none⟩ = false := HB0.out.frozen 5
  have f6 : w.frozen? ⟨p, 6, none⟩ = false := HB0.out.frozen 6
  have f7 : w.frozen? ⟨p, 7, none⟩ = false := HB0.out.frozen 7
  have f8 : w.frozen? ⟨p, 8, none⟩ = false := HB0.out.frozen 8
  have f9 : w.frozen? ⟨p, 9, none⟩ = false := HB0.out.frozen 9
  have f10 : w.frozen? ⟨p, 10, none⟩ = false := HB0.out.frozen 10
  have f11 : w.frozen? ⟨p, 11, none⟩ = false := HB0.out.frozen 11
  have HX : Hid (Calls Try.prog 15 #[.agg #[.int .i64 kind, .int .i64 frm, .int .i64 dst, .int .u64 num, .int .i64 node, .int .u64 0, .int .i64 0, .int .i64 0, .string ⟨#[]⟩, .string ⟨#[]⟩, .bool false, .int .i64 0]] w fun e w' => e = .returned (.bool true) ∧ Below w.heap.size w w') := by
    have h := hasLife_any ((⟨kind, frm, dst, num, node, 0, 0, 0, ⟨#[]⟩, ⟨#[]⟩, false, 0⟩ : MsgQ)) w
    simp only [hl] at h
    exact h
  go_wp2_with fail
  refine HX.out.mono ?_
  rintro e u1 ⟨rfl, y⟩
  have HR1 : Hid (Rdr u1 g b l err) := HR0.out.below y
  have HB1 : Hid (Blk u1 p #[.int .i64 kind, .int .i64 frm, .int .i64 dst, .int .u64 num, .int .i64 node, .int .u64 0, .int .i64 0, .int .i64 0, .string ⟨#[]⟩, .string ⟨#[]⟩, .bool false, .int .i64 0] 27) := HB0.out.of (y.block _ HB0.out.lt)
  have HT1 : Hid (Two g p w u1) := HT0.out.below y
  clear y HX HR0 HB0 HT0
  clear z0 z1 z2 z3 z4 z5 z6 z7 z8 z9 z10 z11 f4 f5 f6 f7 f8 f9 f10 f11
  have z0 : u1.cell? ⟨p, 0, none⟩ = some (.int .i64 kind) := HB1.out.cell 0
  have z1 : u1.cell? ⟨p, 1, none⟩ = some (.int .i64 frm) := HB1.out.cell 1
  have z2 : u1.cell? ⟨p, 2, none⟩ = some (.int .i64 dst) := HB1.out.cell 2
  have z3 : u1.cell? ⟨p, 3, none⟩ = some (.int .u64 num) := HB1.out.cell 3
  have z4 : u1.cell? ⟨p, 4, none⟩ = some (.int .i64 node) := HB1.out.cell 4
  have z5 : u1.cell? ⟨p, 5, none⟩ = some (.int .u64 0) := HB1.out.cell 5
  have z6 : u1.cell? ⟨p, 6, none⟩ = some (.int .i64 0) := HB1.out.cell 6
  have z7 : u1.cell? ⟨p, 7, none⟩ = some (.int .i64 0) := HB1.out.cell 7
  have z8 : u1.cell? ⟨p, 8, none⟩ = some (.string ⟨#[]⟩) := HB1.out.cell 8
  have z9 : u1.cell? ⟨p, 9, none⟩ = some (.string ⟨#[]⟩) := HB1.out.cell 9
  have z10 : u1.cell? ⟨p, 10, none⟩ = some (.bool false) := HB1.out.cell 10
  have z11 : u1.cell? ⟨p, 11, none⟩ = some (.int .i64 0) := HB1.out.cell 11
  have f4 : u1.frozen? ⟨p, 4, none⟩ = false := HB1.out.frozen 4
  have f5 : u1.frozen? ⟨p, 5, none⟩ = false := HB1.out.frozen 5
  have f6 : u1.frozen? ⟨p, 6, none⟩ = false := HB1.out.frozen 6
  have f7 : u1.frozen? ⟨p, 7, none⟩ = false := HB1.out.frozen 7
  have f8 : u1.frozen? ⟨p, 8, none⟩ = false := HB1.out.frozen 8
  have f9 : u1.frozen? ⟨p, 9, none⟩ = false := HB1.out.frozen 9
  have f10 : u1.frozen? ⟨p, 10, none⟩ = false := HB1.out.frozen 10
  have f11 : u1.frozen? ⟨p, 11, none⟩ = false := HB1.out.frozen 11
  obtain ⟨v1, l1, e1, hq, hv1, hx⟩ := rintR 1099511627776 g b l err u1 HR1.out
  have HQ1 : Hid (rint 1099511627776 l err = (v1, l1, e1)) := hq
  have HX : Hid (Calls _ _ _ _ _) := hx
  have hw1 : IntKind.i64.wrap v1 = v1 := by rw [IntKind.wrap_i64]; omega
  clear hq hx hv1
  go_wp2_with fail
  refine HX.out.mono ?_
  rintro e u2 ⟨rfl, h1, h2⟩
  have HR2 : Hid (Rdr u2 g b l1 e1) := h1
  have HB2 : Hid (Blk u2 p #[.int .i64 kind, .int .i64 frm, .int .i64 dst, .int .u64 num, .int .i64 node, .int .u64 0, .int .i64 0, .int .i64 0, .string ⟨#[]⟩, .string ⟨#[]⟩, .bool false, .int .i64 0] 27) := HB1.out.gr h2 HD.out.1
  have HT2 : Hid (Two g p w u2) := HT1.out.grown h2
  clear h1 h2 HX HR1 HB1 HT1
  clear z0 z1 z2 z3 z4 z5 z6 z7 z8 z9 z10 z11 f4 f5 f6 f7 f8 f9 f10 f11
  have z0 : u2.cell? ⟨p, 0, none⟩ = some (.int .i64 kind) := HB2.out.cell 0
  have z1 : u2.cell? ⟨p, 1, none⟩ = some (.int .i64 frm) := HB2.out.cell 1
  have z2 : u2.cell? ⟨p, 2, none⟩ = some (.int .i64 dst) := HB2.out.cell 2
  have z3 : u2.cell? ⟨p, 3, none⟩ = some (.int .u64 num) := HB2.out.cell 3
  have z4 : u2.cell? ⟨p, 4, none⟩ = some (.int .i64 node) := HB2.out.cell 4
  have z5 : u2.cell? ⟨p, 5, none⟩ = some (.int .u64 0) := HB2.out.cell 5
  have z6 : u2.cell? ⟨p, 6, none⟩ = some (.int .i64 0) := HB2.out.cell 6
  have z7 : u2.cell? ⟨p, 7, none⟩ = some (.int .i64 0) := HB2.out.cell 7
  have z8 : u2.cell? ⟨p, 8, none⟩ = some (.string ⟨#[]⟩) := HB2.out.cell 8
  have z9 : u2.cell? ⟨p, 9, none⟩ = some (.string ⟨#[]⟩) := HB2.out.cell 9
  have z10 : u2.cell? ⟨p, 10, none⟩ = some (.bool false) := HB2.out.cell 10
  have z11 : u2.cell? ⟨p, 11, none⟩ = some (.int .i64 0) := HB2.out.cell 11
  have f4 : u2.frozen? ⟨p, 4, none⟩ = false := HB2.out.frozen 4
  have f5 : u2.frozen? ⟨p, 5, none⟩ = false := HB2.out.frozen 5
  have f6 : u2.frozen? ⟨p, 6, none⟩ = false := HB2.out.frozen 6
  have f7 : u2.frozen? ⟨p, 7, none⟩ = false := HB2.out.frozen 7
  have f8 : u2.frozen? ⟨p, 8, none⟩ = false := HB2.out.frozen 8
  have f9 : u2.frozen? ⟨p, 9, none⟩ = false := HB2.out.frozen 9
  have f10 : u2.frozen? ⟨p, 10, none⟩ = false := HB2.out.frozen 10
  have f11 : u2.frozen? ⟨p, 11, none⟩ = false := HB2.out.frozen 11
  have HB3 : Hid (Blk (u2.setCell ⟨p, 5, none⟩ (.int .u64 v1)) p #[.int .i64 kind, .int .i64 frm, .int .i64 dst, .int .u64 num, .int .i64 node, .int .u64 v1, .int .i64 0, .int .i64 0, .string ⟨#[]⟩, .string ⟨#[]⟩, .bool false, .int .i64 0] 27) := by have h := (HB2.out.set 5 (.int .u64 v1)); simp only [List.setIfInBounds_toArray, List.set_cons_succ, List.set_cons_zero] at h; exact h
  have HR3 : Hid (Rdr (u2.setCell ⟨p, 5, none⟩ (.int .u64 v1)) g b l1 e1) := (HR2.out.set HD.out.2.2.1 HD.out.2.2.2 5 (.int .u64 v1))
  have HT3 : Hid (Two g p w (u2.setCell ⟨p, 5, none⟩ (.int .u64 v1))) := (HT2.out.set 5 (.int .u64 v1))
  go_upto_region 2 with fail
  generalize (u2.setCell ⟨p, 5, none⟩ (.int .u64 v1)) = u3 at *
  clear HB2 HR2 HT2
  clear z0 z1 z2 z3 z4 z5 z6 z7 z8 z9 z10 z11 f4 f5 f6 f7 f8 f9 f10 f11
  have z0 : u3.cell? ⟨p, 0, none⟩ = some (.int .i64 kind) := HB3.out.cell 0
  have z1 : u3.cell? ⟨p, 1, none⟩ = some (.int .i64 frm) := HB3.out.cell 1
  have z2 : u3.cell? ⟨p, 2, none⟩ = some (.int .i64 dst) := HB3.out.cell 2
  have z3 : u3.cell? ⟨p, 3, none⟩ = some (.int .u64 num) := HB3.out.cell 3
  have z4 : u3.cell? ⟨p, 4, none⟩ = some (.int .i64 node) := HB3.out.cell 4
  have z5 : u3.cell? ⟨p, 5, none⟩ = some (.int .u64 v1) := HB3.out.cell 5
  have z6 : u3.cell? ⟨p, 6, none⟩ = some (.int .i64 0) := HB3.out.cell 6
  have z7 : u3.cell? ⟨p, 7, none⟩ = some (.int .i64 0) := HB3.out.cell 7
  have z8 : u3.cell? ⟨p, 8, none⟩ = some (.string ⟨#[]⟩) := HB3.out.cell 8
  have z9 : u3.cell? ⟨p, 9, none⟩ = some (.string ⟨#[]⟩) := HB3.out.cell 9
  have z10 : u3.cell? ⟨p, 10, none⟩ = some (.bool false) := HB3.out.cell 10
  have z11 : u3.cell? ⟨p, 11, none⟩ = some (.int .i64 0) := HB3.out.cell 11
  have f4 : u3.frozen? ⟨p, 4, none⟩ = false := HB3.out.frozen 4
  have f5 : u3.frozen? ⟨p, 5, none⟩ = false := HB3.out.frozen 5
  have f6 : u3.frozen? ⟨p, 6, none⟩ = false := HB3.out.frozen 6
  have f7 : u3.frozen? ⟨p, 7, none⟩ = false := HB3.out.frozen 7
  have f8 : u3.frozen? ⟨p, 8, none⟩ = false := HB3.out.frozen 8
  have f9 : u3.frozen? ⟨p, 9, none⟩ = false := HB3.out.frozen 9
  have f10 : u3.frozen? ⟨p, 10, none⟩ = false := HB3.out.frozen 10
  have f11 : u3.frozen? ⟨p, 11, none⟩ = false := HB3.out.frozen 11
  have HX : Hid (Calls Try.prog 17 #[.agg #[.int .i64 kind, .int .i64 frm, .int .i64 dst, .int .u64 num, .int .i64 node, .int .u64 v1, .int .i64 0, .int .i64 0, .string ⟨#[]⟩, .string ⟨#[]⟩, .bool false, .int .i64 0]] u3 fun e w' => e = .returned (.bool true) ∧ Below u3.heap.size u3 w') := by
    have h := hasN_any ((⟨kind, frm, dst, num, node, v1, 0, 0, ⟨#[]⟩, ⟨#[]⟩, false, 0⟩ : MsgQ)) u3
    simp only [hn] at h
    exact h
  go_wp2_with fail
  refine HX.out.mono ?_
  rintro e u4 ⟨rfl, y⟩
  have HR4 : Hid (Rdr u4 g b l1 e1) := HR3.out.below y
  have HB4 : Hid (Blk u4 p #[.int .i64 kind, .int .i64 frm, .int .i64 dst, .int .u64 num, .int .i64 node, .int .u64 v1, .int .i64 0, .int .i64 0, .string ⟨#[]⟩, .string ⟨#[]⟩, .bool false, .int .i64 0] 27) := HB3.out.of (y.block _ HB3.out.lt)
  have HT4 : Hid (Two g p w u4) := HT3.out.below y
  clear y HX HR3 HB3 HT3
  clear z0 z1 z2 z3 z4 z5 z6 z7 z8 z9 z10 z11 f4 f5 f6 f7 f8 f9 f10 f11
  have z0 : u4.cell? ⟨p, 0, none⟩ = some (.int .i64 kind) := HB4.out.cell 0
  have z1 : u4.cell? ⟨p, 1, none⟩ = some (.int .i64 frm) := HB4.out.cell 1
  have z2 : u4.cell? ⟨p, 2, none⟩ = some (.int .i64 dst) := HB4.out.cell 2
  have z3 : u4.cell? ⟨p, 3, none⟩ = some (.int .u64 num) := HB4.out.cell 3
  have z4 : u4.cell? ⟨p, 4, none⟩ = some (.int .i64 node) := HB4.out.cell 4
  have z5 : u4.cell? ⟨p, 5, none⟩ = some (.int .u64 v1) := HB4.out.cell 5
  have z6 : u4.cell? ⟨p, 6, none⟩ = some (.int .i64 0) := HB4.out.cell 6
  have z7 : u4.cell? ⟨p, 7, none⟩ = some (.int .i64 0) := HB4.out.cell 7
  have z8 : u4.cell? ⟨p, 8, none⟩ = some (.string ⟨#[]⟩) := HB4.out.cell 8
  have z9 : u4.cell? ⟨p, 9, none⟩ = some (.string ⟨#[]⟩) := HB4.out.cell 9
  have z10 : u4.cell? ⟨p, 10, none⟩ = some (.bool false) := HB4.out.cell 10
  have z11 : u4.cell? ⟨p, 11, none⟩ = some (.int .i64 0) := HB4.out.cell 11
  have f4 : u4.frozen? ⟨p, 4, none⟩ = false := HB4.out.frozen 4
  have f5 : u4.frozen? ⟨p, 5, none⟩ = false := HB4.out.frozen 5
  have f6 : u4.frozen? ⟨p, 6, none⟩ = false := HB4.out.frozen 6
  have f7 : u4.frozen? ⟨p, 7, none⟩ = false := HB4.out.frozen 7
  have f8 : u4.frozen? ⟨p, 8, none⟩ = false := HB4.out.frozen 8
  have f9 : u4.frozen? ⟨p, 9, none⟩ = false := HB4.out.frozen 9
  have f10 : u4.frozen? ⟨p, 10, none⟩ = false := HB4.out.frozen 10
  have f11 : u4.frozen? ⟨p, 11, none⟩ = false := HB4.out.frozen 11
  obtain ⟨v2, l2, e2, hq, hv2, hx⟩ := rintR 1048576 g b l1 e1 u4 HR4.out
  have HQ2 : Hid (rint 1048576 l1 e1 = (v2, l2, e2)) := hq
  have HX : Hid (Calls _ _ _ _ _) := hx
  have hw2 : IntKind.i64.wrap v2 = v2 := by rw [IntKind.wrap_i64]; omega
  clear hq hx hv2
  go_wp2_with fail
  refine HX.out.mono ?_
  rintro e u5 ⟨rfl, h1, h2⟩
  have HR5 : Hid (Rdr u5 g b l2 e2) := h1
  have HB5 : Hid (Blk u5 p #[.int .i64 kind, .int .i64 frm, .int .i64 dst, .int .u64 num, .int .i64 node, .int .u64 v1, .int .i64 0, .int .i64 0, .string ⟨#[]⟩, .string ⟨#[]⟩, .bool false, .int .i64 0] 27) := HB4.out.gr h2 HD.out.1
  have HT5 : Hid (Two g p w u5) := HT4.out.grown h2
  clear h1 h2 HX HR4 HB4 HT4
  clear z0 z1 z2 z3 z4 z5 z6 z7 z8 z9 z10 z11 f4 f5 f6 f7 f8 f9 f10 f11
  have z0 : u5.cell? ⟨p, 0, none⟩ = some (.int .i64 kind) := HB5.out.cell 0
  have z1 : u5.cell? ⟨p, 1, none⟩ = some (.int .i64 frm) := HB5.out.cell 1
  have z2 : u5.cell? ⟨p, 2, none⟩ = some (.int .i64 dst) := HB5.out.cell 2
  have z3 : u5.cell? ⟨p, 3, none⟩ = some (.int .u64 num) := HB5.out.cell 3
  have z4 : u5.cell? ⟨p, 4, none⟩ = some (.int .i64 node) := HB5.out.cell 4
  have z5 : u5.cell? ⟨p, 5, none⟩ = some (.int .u64 v1) := HB5.out.cell 5
  have z6 : u5.cell? ⟨p, 6, none⟩ = some (.int .i64 0) := HB5.out.cell 6
  have z7 : u5.cell? ⟨p, 7, none⟩ = some (.int .i64 0) := HB5.out.cell 7
  have z8 : u5.cell? ⟨p, 8, none⟩ = some (.string ⟨#[]⟩) := HB5.out.cell 8
  have z9 : u5.cell? ⟨p, 9, none⟩ = some (.string ⟨#[]⟩) := HB5.out.cell 9
  have z10 : u5.cell? ⟨p, 10, none⟩ = some (.bool false) := HB5.out.cell 10
  have z11 : u5.cell? ⟨p, 11, none⟩ = some (.int .i64 0) := HB5.out.cell 11
  have f4 : u5.frozen? ⟨p, 4, none⟩ = false := HB5.out.frozen 4
  have f5 : u5.frozen? ⟨p, 5, none⟩ = false := HB5.out.frozen 5
  have f6 : u5.frozen? ⟨p, 6, none⟩ = false := HB5.out.frozen 6
  have f7 : u5.frozen? ⟨p, 7, none⟩ = false := HB5.out.frozen 7
  have f8 : u5.frozen? ⟨p, 8, none⟩ = false := HB5.out.frozen 8
  have f9 : u5.frozen? ⟨p, 9, none⟩ = false := HB5.out.frozen 9
  have f10 : u5.frozen? ⟨p, 10, none⟩ = false := HB5.out.frozen 10
  have f11 : u5.frozen? ⟨p, 11, none⟩ = false := HB5.out.frozen 11
  have HB6 : Hid (Blk (u5.setCell ⟨p, 6, none⟩ (.int .i64 v2)) p #[.int .i64 kind, .int .i64 frm, .int .i64 dst, .int .u64 num, .int .i64 node, .int .u64 v1, .int .i64 v2, .int .i64 0, .string ⟨#[]⟩, .string ⟨#[]⟩, .bool false, .int .i64 0] 27) := by have h := (HB5.out.set 6 (.int .i64 v2)); simp only [List.setIfInBounds_toArray, List.set_cons_succ, List.set_cons_zero] at h; exact h
  have HR6 : Hid (Rdr (u5.setCell ⟨p, 6, none⟩ (.int .i64 v2)) g b l2 e2) := (HR5.out.set HD.out.2.2.1 HD.out.2.2.2 6 (.int .i64 v2))
  have HT6 : Hid (Two g p w (u5.setCell ⟨p, 6, none⟩ (.int .i64 v2))) := (HT5.out.set 6 (.int .i64 v2))
  go_upto_region 4 with fail
  generalize (u5.setCell ⟨p, 6, none⟩ (.int .i64 v2)) = u6 at *
  clear HB5 HR5 HT5
  clear z0 z1 z2 z3 z4 z5 z6 z7 z8 z9 z10 z11 f4 f5 f6 f7 f8 f9 f10 f11
  have z0 : u6.cell? ⟨p, 0, none⟩ = some (.int .i64 kind) := HB6.out.cell 0
  have z1 : u6.cell? ⟨p, 1, none⟩ = some (.int .i64 frm) := HB6.out.cell 1
  have z2 : u6.cell? ⟨p, 2, none⟩ = some (.int .i64 dst) := HB6.out.cell 2
  have z3 : u6.cell? ⟨p, 3, none⟩ = some (.int .u64 num) := HB6.out.cell 3
  have z4 : u6.cell? ⟨p, 4, none⟩ = some (.int .i64 node) := HB6.out.cell 4
  have z5 : u6.cell? ⟨p, 5, none⟩ = some (.int .u64 v1) := HB6.out.cell 5
  have z6 : u6.cell? ⟨p, 6, none⟩ = some (.int .i64 v2) := HB6.out.cell 6
  have z7 : u6.cell? ⟨p, 7, none⟩ = some (.int .i64 0) := HB6.out.cell 7
  have z8 : u6.cell? ⟨p, 8, none⟩ = some (.string ⟨#[]⟩) := HB6.out.cell 8
  have z9 : u6.cell? ⟨p, 9, none⟩ = some (.string ⟨#[]⟩) := HB6.out.cell 9
  have z10 : u6.cell? ⟨p, 10, none⟩ = some (.bool false) := HB6.out.cell 10
  have z11 : u6.cell? ⟨p, 11, none⟩ = some (.int .i64 0) := HB6.out.cell 11
  have f4 : u6.frozen? ⟨p, 4, none⟩ = false := HB6.out.frozen 4
  have f5 : u6.frozen? ⟨p, 5, none⟩ = false := HB6.out.frozen 5
  have f6 : u6.frozen? ⟨p, 6, none⟩ = false := HB6.out.frozen 6
  have f7 : u6.frozen? ⟨p, 7, none⟩ = false := HB6.out.frozen 7
  have f8 : u6.frozen? ⟨p, 8, none⟩ = false := HB6.out.frozen 8
  have f9 : u6.frozen? ⟨p, 9, none⟩ = false := HB6.out.frozen 9
  have f10 : u6.frozen? ⟨p, 10, none⟩ = false := HB6.out.frozen 10
  have f11 : u6.frozen? ⟨p, 11, none⟩ = false := HB6.out.frozen 11
  obtain ⟨v3, l3, e3, hq, hv3, hx⟩ := rintR 3 g b l2 e2 u6 HR6.out
  have HQ3 : Hid (rint 3 l2 e2 = (v3, l3, e3)) := hq
  have HX : Hid (Calls _ _ _ _ _) := hx
  have hw3 : IntKind.i64.wrap v3 = v3 := by rw [IntKind.wrap_i64]; omega
  clear hq hx hv3
  go_wp2_with fail
  refine HX.out.mono ?_
  rintro e u7 ⟨rfl, h1, h2⟩
  have HR7 : Hid (Rdr u7 g b l3 e3) := h1
  have HB7 : Hid (Blk u7 p #[.int .i64 kind, .int .i64 frm, .int .i64 dst, .int .u64 num, .int .i64 node, .int .u64 v1, .int .i64 v2, .int .i64 0, .string ⟨#[]⟩, .string ⟨#[]⟩, .bool false, .int .i64 0] 27) := HB6.out.gr h2 HD.out.1
  have HT7 : Hid (Two g p w u7) := HT6.out.grown h2
  clear h1 h2 HX HR6 HB6 HT6
  clear z0 z1 z2 z3 z4 z5 z6 z7 z8 z9 z10 z11 f4 f5 f6 f7 f8 f9 f10 f11
  have z0 : u7.cell? ⟨p, 0, none⟩ = some (.int .i64 kind) := HB7.out.cell 0
  have z1 : u7.cell? ⟨p, 1, none⟩ = some (.int .i64 frm) := HB7.out.cell 1
  have z2 : u7.cell? ⟨p, 2, none⟩ = some (.int .i64 dst) := HB7.out.cell 2
  have z3 : u7.cell? ⟨p, 3, none⟩ = some (.int .u64 num) := HB7.out.cell 3
  have z4 : u7.cell? ⟨p, 4, none⟩ = some (.int .i64 node) := HB7.out.cell 4
  have z5 : u7.cell? ⟨p, 5, none⟩ = some (.int .u64 v1) := HB7.out.cell 5
  have z6 : u7.cell? ⟨p, 6, none⟩ = some (.int .i64 v2) := HB7.out.cell 6
  have z7 : u7.cell? ⟨p, 7, none⟩ = some (.int .i64 0) := HB7.out.cell 7
  have z8 : u7.cell? ⟨p, 8, none⟩ = some (.string ⟨#[]⟩) := HB7.out.cell 8
  have z9 : u7.cell? ⟨p, 9, none⟩ = some (.string ⟨#[]⟩) := HB7.out.cell 9
  have z10 : u7.cell? ⟨p, 10, none⟩ = some (.bool false) := HB7.out.cell 10
  have z11 : u7.cell? ⟨p, 11, none⟩ = some (.int .i64 0) := HB7.out.cell 11
  have f4 : u7.frozen? ⟨p, 4, none⟩ = false := HB7.out.frozen 4
  have f5 : u7.frozen? ⟨p, 5, none⟩ = false := HB7.out.frozen 5
  have f6 : u7.frozen? ⟨p, 6, none⟩ = false := HB7.out.frozen 6
  have f7 : u7.frozen? ⟨p, 7, none⟩ = false := HB7.out.frozen 7
  have f8 : u7.frozen? ⟨p, 8, none⟩ = false := HB7.out.frozen 8
  have f9 : u7.frozen? ⟨p, 9, none⟩ = false := HB7.out.frozen 9
  have f10 : u7.frozen? ⟨p, 10, none⟩ = false := HB7.out.frozen 10
  have f11 : u7.frozen? ⟨p, 11, none⟩ = false := HB7.out.frozen 11
  obtain ⟨v4, l4, e4, hq, hv4, hx⟩ := rstrR 24 (by omega) g b l3 e3 u7 HR7.out
  have HQ4 : Hid (rstr 24 l3 e3 = (v4, l4, e4)) := hq
  have HX : Hid (Calls _ _ _ _ _) := hx
  clear hq hx hv4
  go_wp2_with fail
  refine HX.out.mono ?_
  rintro e u8 ⟨rfl, h1, h2⟩
  have HR8 : Hid (Rdr u8 g b l4 e4) := h1
  have HB8 : Hid (Blk u8 p #[.int .i64 kind, .int .i64 frm, .int .i64 dst, .int .u64 num, .int .i64 node, .int .u64 v1, .int .i64 v2, .int .i64 0, .string ⟨#[]⟩, .string ⟨#[]⟩, .bool false, .int .i64 0] 27) := HB7.out.gr h2 HD.out.1
  have HT8 : Hid (Two g p w u8) := HT7.out.grown h2
  clear h1 h2 HX HR7 HB7 HT7
  clear z0 z1 z2 z3 z4 z5 z6 z7 z8 z9 z10 z11 f4 f5 f6 f7 f8 f9 f10 f11
  have z0 : u8.cell? ⟨p, 0, none⟩ = some (.int .i64 kind) := HB8.out.cell 0
  have z1 : u8.cell? ⟨p, 1, none⟩ = some (.int .i64 frm) := HB8.out.cell 1
  have z2 : u8.cell? ⟨p, 2, none⟩ = some (.int .i64 dst) := HB8.out.cell 2
  have z3 : u8.cell? ⟨p, 3, none⟩ = some (.int .u64 num) := HB8.out.cell 3
  have z4 : u8.cell? ⟨p, 4, none⟩ = some (.int .i64 node) := HB8.out.cell 4
  have z5 : u8.cell? ⟨p, 5, none⟩ = some (.int .u64 v1) := HB8.out.cell 5
  have z6 : u8.cell? ⟨p, 6, none⟩ = some (.int .i64 v2) := HB8.out.cell 6
  have z7 : u8.cell? ⟨p, 7, none⟩ = some (.int .i64 0) := HB8.out.cell 7
  have z8 : u8.cell? ⟨p, 8, none⟩ = some (.string ⟨#[]⟩) := HB8.out.cell 8
  have z9 : u8.cell? ⟨p, 9, none⟩ = some (.string ⟨#[]⟩) := HB8.out.cell 9
  have z10 : u8.cell? ⟨p, 10, none⟩ = some (.bool false) := HB8.out.cell 10
  have z11 : u8.cell? ⟨p, 11, none⟩ = some (.int .i64 0) := HB8.out.cell 11
  have f4 : u8.frozen? ⟨p, 4, none⟩ = false := HB8.out.frozen 4
  have f5 : u8.frozen? ⟨p, 5, none⟩ = false := HB8.out.frozen 5
  have f6 : u8.frozen? ⟨p, 6, none⟩ = false := HB8.out.frozen 6
  have f7 : u8.frozen? ⟨p, 7, none⟩ = false := HB8.out.frozen 7
  have f8 : u8.frozen? ⟨p, 8, none⟩ = false := HB8.out.frozen 8
  have f9 : u8.frozen? ⟨p, 9, none⟩ = false := HB8.out.frozen 9
  have f10 : u8.frozen? ⟨p, 10, none⟩ = false := HB8.out.frozen 10
  have f11 : u8.frozen? ⟨p, 11, none⟩ = false := HB8.out.frozen 11
  obtain ⟨v5, l5, e5, hq, hv5, hx⟩ := rstrR 48 (by omega) g b l4 e4 u8 HR8.out
  have HQ5 : Hid (rstr 48 l4 e4 = (v5, l5, e5)) := hq
  have HX : Hid (Calls _ _ _ _ _) := hx
  clear hq hx hv5
  go_wp2_with fail
  refine HX.out.mono ?_
  rintro e u9 ⟨rfl, h1, h2⟩
  have HR9 : Hid (Rdr u9 g b l5 e5) := h1
  have HB9 : Hid (Blk u9 p #[.int .i64 kind, .int .i64 frm, .int .i64 dst, .int .u64 num, .int .i64 node, .int .u64 v1, .int .i64 v2, .int .i64 0, .string ⟨#[]⟩, .string ⟨#[]⟩, .bool false, .int .i64 0] 27) := HB8.out.gr h2 HD.out.1
  have HT9 : Hid (Two g p w u9) := HT8.out.grown h2
  clear h1 h2 HX HR8 HB8 HT8
  clear z0 z1 z2 z3 z4 z5 z6 z7 z8 z9 z10 z11 f4 f5 f6 f7 f8 f9 f10 f11
  have z0 : u9.cell? ⟨p, 0, none⟩ = some (.int .i64 kind) := HB9.out.cell 0
  have z1 : u9.cell? ⟨p, 1, none⟩ = some (.int .i64 frm) := HB9.out.cell 1
  have z2 : u9.cell? ⟨p, 2, none⟩ = some (.int .i64 dst) := HB9.out.cell 2
  have z3 : u9.cell? ⟨p, 3, none⟩ = some (.int .u64 num) := HB9.out.cell 3
  have z4 : u9.cell? ⟨p, 4, none⟩ = some (.int .i64 node) := HB9.out.cell 4
  have z5 : u9.cell? ⟨p, 5, none⟩ = some (.int .u64 v1) := HB9.out.cell 5
  have z6 : u9.cell? ⟨p, 6, none⟩ = some (.int .i64 v2) := HB9.out.cell 6
  have z7 : u9.cell? ⟨p, 7, none⟩ = some (.int .i64 0) := HB9.out.cell 7
  have z8 : u9.cell? ⟨p, 8, none⟩ = some (.string ⟨#[]⟩) := HB9.out.cell 8
  have z9 : u9.cell? ⟨p, 9, none⟩ = some (.string ⟨#[]⟩) := HB9.out.cell 9
  have z10 : u9.cell? ⟨p, 10, none⟩ = some (.bool false) := HB9.out.cell 10
  have z11 : u9.cell? ⟨p, 11, none⟩ = some (.int .i64 0) := HB9.out.cell 11
  have f4 : u9.frozen? ⟨p, 4, none⟩ = false := HB9.out.frozen 4
  have f5 : u9.frozen? ⟨p, 5, none⟩ = false := HB9.out.frozen 5
  have f6 : u9.frozen? ⟨p, 6, none⟩ = false := HB9.out.frozen 6
  have f7 : u9.frozen? ⟨p, 7, none⟩ = false := HB9.out.frozen 7
  have f8 : u9.frozen? ⟨p, 8, none⟩ = false := HB9.out.frozen 8
  have f9 : u9.frozen? ⟨p, 9, none⟩ = false := HB9.out.frozen 9
  have f10 : u9.frozen? ⟨p, 10, none⟩ = false := HB9.out.frozen 10
  have f11 : u9.frozen? ⟨p, 11, none⟩ = false := HB9.out.frozen 11
  have HB10 : Hid (Blk (((u9.setCell ⟨p, 7, none⟩ (.int .i64 v3)).setCell ⟨p, 8, none⟩ (.string v4)).setCell ⟨p, 9, none⟩ (.string v5)) p #[.int .i64 kind, .int .i64 frm, .int .i64 dst, .int .u64 num, .int .i64 node, .int .u64 v1, .int .i64 v2, .int .i64 v3, .string v4, .string v5, .bool false, .int .i64 0] 27) := by have h := (((HB9.out.set 7 (.int .i64 v3)).set 8 (.string v4)).set 9 (.string v5)); simp only [List.setIfInBounds_toArray, List.set_cons_succ, List.set_cons_zero] at h; exact h
  have HR10 : Hid (Rdr (((u9.setCell ⟨p, 7, none⟩ (.int .i64 v3)).setCell ⟨p, 8, none⟩ (.string v4)).setCell ⟨p, 9, none⟩ (.string v5)) g b l5 e5) := (((HR9.out.set HD.out.2.2.1 HD.out.2.2.2 7 (.int .i64 v3)).set HD.out.2.2.1 HD.out.2.2.2 8 (.string v4)).set HD.out.2.2.1 HD.out.2.2.2 9 (.string v5))
  have HT10 : Hid (Two g p w (((u9.setCell ⟨p, 7, none⟩ (.int .i64 v3)).setCell ⟨p, 8, none⟩ (.string v4)).setCell ⟨p, 9, none⟩ (.string v5))) := (((HT9.out.set 7 (.int .i64 v3)).set 8 (.string v4)).set 9 (.string v5))
  go_upto_region 6 with fail
  generalize (((u9.setCell ⟨p, 7, none⟩ (.int .i64 v3)).setCell ⟨p, 8, none⟩ (.string v4)).setCell ⟨p, 9, none⟩ (.string v5)) = u10 at *
  clear HB9 HR9 HT9
  clear z0 z1 z2 z3 z4 z5 z6 z7 z8 z9 z10 z11 f4 f5 f6 f7 f8 f9 f10 f11
  have z0 : u10.cell? ⟨p, 0, none⟩ = some (.int .i64 kind) := HB10.out.cell 0
  have z1 : u10.cell? ⟨p, 1, none⟩ = some (.int .i64 frm) := HB10.out.cell 1
  have z2 : u10.cell? ⟨p, 2, none⟩ = some (.int .i64 dst) := HB10.out.cell 2
  have z3 : u10.cell? ⟨p, 3, none⟩ = some (.int .u64 num) := HB10.out.cell 3
  have z4 : u10.cell? ⟨p, 4, none⟩ = some (.int .i64 node) := HB10.out.cell 4
  have z5 : u10.cell? ⟨p, 5, none⟩ = some (.int .u64 v1) := HB10.out.cell 5
  have z6 : u10.cell? ⟨p, 6, none⟩ = some (.int .i64 v2) := HB10.out.cell 6
  have z7 : u10.cell? ⟨p, 7, none⟩ = some (.int .i64 v3) := HB10.out.cell 7
  have z8 : u10.cell? ⟨p, 8, none⟩ = some (.string v4) := HB10.out.cell 8
  have z9 : u10.cell? ⟨p, 9, none⟩ = some (.string v5) := HB10.out.cell 9
  have z10 : u10.cell? ⟨p, 10, none⟩ = some (.bool false) := HB10.out.cell 10
  have z11 : u10.cell? ⟨p, 11, none⟩ = some (.int .i64 0) := HB10.out.cell 11
  have f4 : u10.frozen? ⟨p, 4, none⟩ = false := HB10.out.frozen 4
  have f5 : u10.frozen? ⟨p, 5, none⟩ = false := HB10.out.frozen 5
  have f6 : u10.frozen? ⟨p, 6, none⟩ = false := HB10.out.frozen 6
  have f7 : u10.frozen? ⟨p, 7, none⟩ = false := HB10.out.frozen 7
  have f8 : u10.frozen? ⟨p, 8, none⟩ = false := HB10.out.frozen 8
  have f9 : u10.frozen? ⟨p, 9, none⟩ = false := HB10.out.frozen 9
  have f10 : u10.frozen? ⟨p, 10, none⟩ = false := HB10.out.frozen 10
  have f11 : u10.frozen? ⟨p, 11, none⟩ = false := HB10.out.frozen 11
  have HX : Hid (Calls Try.prog 19 #[.agg #[.int .i64 kind, .int .i64 frm, .int .i64 dst, .int .u64 num, .int .i64 node, .int .u64 v1, .int .i64 v2, .int .i64 v3, .string v4, .string v5, .bool false, .int .i64 0]] u10 fun e w' => e = .returned (.bool false) ∧ Below u10.heap.size u10 w') := by
    have h := hasCode_any ((⟨kind, frm, dst, num, node, v1, v2, v3, v4, v5, false, 0⟩ : MsgQ)) u10
    simp only [hc] at h
    exact h
  go_wp2_with fail
  refine HX.out.mono ?_
  rintro e u11 ⟨rfl, y⟩
  have HR11 : Hid (Rdr u11 g b l5 e5) := HR10.out.below y
  have HB11 : Hid (Blk u11 p #[.int .i64 kind, .int .i64 frm, .int .i64 dst, .int .u64 num, .int .i64 node, .int .u64 v1, .int .i64 v2, .int .i64 v3, .string v4, .string v5, .bool false, .int .i64 0] 27) := HB10.out.of (y.block _ HB10.out.lt)
  have HT11 : Hid (Two g p w u11) := HT10.out.below y
  clear y HX HR10 HB10 HT10
  clear z0 z1 z2 z3 z4 z5 z6 z7 z8 z9 z10 z11 f4 f5 f6 f7 f8 f9 f10 f11
  have z0 : u11.cell? ⟨p, 0, none⟩ = some (.int .i64 kind) := HB11.out.cell 0
  have z1 : u11.cell? ⟨p, 1, none⟩ = some (.int .i64 frm) := HB11.out.cell 1
  have z2 : u11.cell? ⟨p, 2, none⟩ = some (.int .i64 dst) := HB11.out.cell 2
  have z3 : u11.cell? ⟨p, 3, none⟩ = some (.int .u64 num) := HB11.out.cell 3
  have z4 : u11.cell? ⟨p, 4, none⟩ = some (.int .i64 node) := HB11.out.cell 4
  have z5 : u11.cell? ⟨p, 5, none⟩ = some (.int .u64 v1) := HB11.out.cell 5
  have z6 : u11.cell? ⟨p, 6, none⟩ = some (.int .i64 v2) := HB11.out.cell 6
  have z7 : u11.cell? ⟨p, 7, none⟩ = some (.int .i64 v3) := HB11.out.cell 7
  have z8 : u11.cell? ⟨p, 8, none⟩ = some (.string v4) := HB11.out.cell 8
  have z9 : u11.cell? ⟨p, 9, none⟩ = some (.string v5) := HB11.out.cell 9
  have z10 : u11.cell? ⟨p, 10, none⟩ = some (.bool false) := HB11.out.cell 10
  have z11 : u11.cell? ⟨p, 11, none⟩ = some (.int .i64 0) := HB11.out.cell 11
  have f4 : u11.frozen? ⟨p, 4, none⟩ = false := HB11.out.frozen 4
  have f5 : u11.frozen? ⟨p, 5, none⟩ = false := HB11.out.frozen 5
  have f6 : u11.frozen? ⟨p, 6, none⟩ = false := HB11.out.frozen 6
  have f7 : u11.frozen? ⟨p, 7, none⟩ = false := HB11.out.frozen 7
  have f8 : u11.frozen? ⟨p, 8, none⟩ = false := HB11.out.frozen 8
  have f9 : u11.frozen? ⟨p, 9, none⟩ = false := HB11.out.frozen 9
  have f10 : u11.frozen? ⟨p, 10, none⟩ = false := HB11.out.frozen 10
  have f11 : u11.frozen? ⟨p, 11, none⟩ = false := HB11.out.frozen 11
  go_wp2
  have HEQ : Hid (rbody kind frm dst (num, node) l err = (⟨kind, frm, dst, num, node, v1, v2, v3, v4, v5, false, 0⟩, l5, e5)) := by
    show _ = _
    have P3 : (kind = 3) = True := eq_true (by have := HK.out; omega)
    have P4 : (kind = 4) = False := eq_false (by have := HK.out; omega)
    simp only [rbody, rb, rlife, rn, rdo, rcode, rdid, rp, hl, hn, hc, P3, P4, if_true, if_false, Bool.false_eq_true, HQ1.out, HQ2.out, HQ3.out, HQ4.out, HQ5.out] <;> rfl
  go_end0
  rw [HEQ.out]
  exact ⟨rfl, HB11.out, HR11.out, HT11.out⟩
set_option maxRecDepth 100000 in
set_option maxHeartbeats 8000000 in
theorem read4_any (p g b : Nat) (l : List UInt8) (err : Nat) (kind frm dst num node : Int) (w : World) (h : Rdr w g b l err) (hb : Blk w p #[.int .i64 kind, .int .i64 frm, .int .i64 dst, .int .u64 num, .int .i64 node, .int .u64 0, .int .i64 0, .int .i64 0, .string ⟨#[]⟩, .string ⟨#[]⟩, .bool false, .int .i64 0] 27) (hpg : p ≠ g) (hpb : p ≠ b) (hk : kind = 4) : Calls Try.prog 32 #[.pointer (some ⟨p, 0, none⟩), .pointer (some ⟨g, 0, none⟩)] w (RdM (rbody kind frm dst (num, node) l err) p g b w) := by
  have hl : hasLifeB kind = false := decide_eq_false (by omega)
  have hn : hasNB kind = true := decide_eq_true (by omega)
  have hc : hasCodeB kind = true := decide_eq_true (by omega)
  have e3 : (kind == 3) = false := by simp [hk]
  have e4 : (kind == 4) = true := by simp [hk]
  have HK : Hid (kind = 4) := hk
  have HR0 : Hid (Rdr w g b l err) := h
  have HB0 : Hid (Blk w p #[.int .i64 kind, .int .i64 frm, .int .i64 dst, .int .u64 num, .int .i64 node, .int .u64 0, .int .i64 0, .int .i64 0, .string ⟨#[]⟩, .string ⟨#[]⟩, .bool false, .int .i64 0] 27) := hb
  have HT0 : Hid (Two g p w w) := Two.refl _ _ _
  have HD : Hid (p ≠ g ∧ p ≠ b ∧ g ≠ p ∧ b ≠ p) := ⟨hpg, hpb, hpg.symm, hpb.symm⟩
  clear h hb hpg hpb hk
  go_enter Try.func32, Try.ntmps32
  have z0 : w.cell? ⟨p, 0, none⟩ = some (.int .i64 kind) := HB0.out.cell 0
  have z1 : w.cell? ⟨p, 1, none⟩ = some (.int .i64 frm) := HB0.out.cell 1
  have z2 : w.cell? ⟨p, 2, none⟩ = some (.int .i64 dst) := HB0.out.cell 2
  have z3 : w.cell? ⟨p, 3, none⟩ = some (.int .u64 num) := HB0.out.cell 3
  have z4 : w.cell? ⟨p, 4, none⟩ = some (.int .i64 node) := HB0.out.cell 4
  have z5 : w.cell? ⟨p, 5, none⟩ = some (.int .u64 0) := HB0.out.cell 5
  have z6 : w.cell? ⟨p, 6, none⟩ = some (.int .i64 0) := HB0.out.cell 6
  have z7 : w.cell? ⟨p, 7, none⟩ = some (.int .i64 0) := HB0.out.cell 7
  have z8 : w.cell? ⟨p, 8, none⟩ = some (.string ⟨#[]⟩) := HB0.out.cell 8
  have z9 : w.cell? ⟨p, 9, none⟩ = some (.string ⟨#[]⟩) := HB0.out.cell 9
  have z10 : w.cell? ⟨p, 10, none⟩ = some (.bool false) := HB0.out.cell 10
  have z11 : w.cell? ⟨p, 11, none⟩ = some (.int .i64 0) := HB0.out.cell 11
  have f4 : w.frozen? ⟨p, 4, none⟩ = false := HB0.out.frozen 4
  have f5 : w.frozen? ⟨p, 5, none⟩ = false := HB0.out.frozen 5
  have f6 : w.frozen? ⟨p, 6, none⟩ = false := HB0.out.frozen 6
  have f7 : w.frozen? ⟨p, 7, none⟩ = false := HB0.out.frozen 7
  have f8 : w.frozen? ⟨p, 8, none⟩ = false := HB0.out.frozen 8
  have f9 : w.frozen? ⟨p, 9, none⟩ = false := HB0.out.frozen 9
  have f10 : w.frozen? ⟨p, 10, none⟩ = false := HB0.out.frozen 10
  have f11 : w.frozen? ⟨p, 11, none⟩ = false := HB0.out.frozen 11
  have HX : Hid (Calls Try.prog 15 #[.agg #[.int .i64 kind, .int .i64 frm, .int .i64 dst, .int .u64 num, .int .i64 node, .int .u64 0, .int .i64 0, .int .i64 0, .string ⟨#[]⟩, .string ⟨#[]⟩, .bool false, .int .i64 0]] w fun e w' => e = .returned (.bool false) ∧ Below w.heap.size w w') := by
    have h := hasLife_any ((⟨kind, frm, dst, num, node, 0, 0, 0, ⟨#[]⟩, ⟨#[]⟩, false, 0⟩ : MsgQ)) w
    simp only [hl] at h
    exact h
  go_wp2_with fail
  refine HX.out.mono ?_
  rintro e u1 ⟨rfl, y⟩
  have HR1 : Hid (Rdr u1 g b l err) := HR0.out.below y
  have HB1 : Hid (Blk u1 p #[.int .i64 kind, .int .i64 frm, .int .i64 dst, .int .u64 num, .int .i64 node, .int .u64 0, .int .i64 0, .int .i64 0, .string ⟨#[]⟩, .string ⟨#[]⟩, .bool false, .int .i64 0] 27) := HB0.out.of (y.block _ HB0.out.lt)
  have HT1 : Hid (Two g p w u1) := HT0.out.below y
  clear y HX HR0 HB0 HT0
  clear z0 z1 z2 z3 z4 z5 z6 z7 z8 z9 z10 z11 f4 f5 f6 f7 f8 f9 f10 f11
  have z0 : u1.cell? ⟨p, 0, none⟩ = some (.int .i64 kind) := HB1.out.cell 0
  have z1 : u1.cell? ⟨p, 1, none⟩ = some (.int .i64 frm) := HB1.out.cell 1
  have z2 : u1.cell? ⟨p, 2, none⟩ = some (.int .i64 dst) := HB1.out.cell 2
  have z3 : u1.cell? ⟨p, 3, none⟩ = some (.int .u64 num) := HB1.out.cell 3
  have z4 : u1.cell? ⟨p, 4, none⟩ = some (.int .i64 node) := HB1.out.cell 4
  have z5 : u1.cell? ⟨p, 5, none⟩ = some (.int .u64 0) := HB1.out.cell 5
  have z6 : u1.cell? ⟨p, 6, none⟩ = some (.int .i64 0) := HB1.out.cell 6
  have z7 : u1.cell? ⟨p, 7, none⟩ = some (.int .i64 0) := HB1.out.cell 7
  have z8 : u1.cell? ⟨p, 8, none⟩ = some (.string ⟨#[]⟩) := HB1.out.cell 8
  have z9 : u1.cell? ⟨p, 9, none⟩ = some (.string ⟨#[]⟩) := HB1.out.cell 9
  have z10 : u1.cell? ⟨p, 10, none⟩ = some (.bool false) := HB1.out.cell 10
  have z11 : u1.cell? ⟨p, 11, none⟩ = some (.int .i64 0) := HB1.out.cell 11
  have f4 : u1.frozen? ⟨p, 4, none⟩ = false := HB1.out.frozen 4
  have f5 : u1.frozen? ⟨p, 5, none⟩ = false := HB1.out.frozen 5
  have f6 : u1.frozen? ⟨p, 6, none⟩ = false := HB1.out.frozen 6
  have f7 : u1.frozen? ⟨p, 7, none⟩ = false := HB1.out.frozen 7
  have f8 : u1.frozen? ⟨p, 8, none⟩ = false := HB1.out.frozen 8
  have f9 : u1.frozen? ⟨p, 9, none⟩ = false := HB1.out.frozen 9
  have f10 : u1.frozen? ⟨p, 10, none⟩ = false := HB1.out.frozen 10
  have f11 : u1.frozen? ⟨p, 11, none⟩ = false := HB1.out.frozen 11
  have HX : Hid (Calls Try.prog 17 #[.agg #[.int .i64 kind, .int .i64 frm, .int .i64 dst, .int .u64 num, .int .i64 node, .int .u64 0, .int .i64 0, .int .i64 0, .string ⟨#[]⟩, .string ⟨#[]⟩, .bool false, .int .i64 0]] u1 fun e w' => e = .returned (.bool true) ∧ Below u1.heap.size u1 w') := by
    have h := hasN_any ((⟨kind, frm, dst, num, node, 0, 0, 0, ⟨#[]⟩, ⟨#[]⟩, false, 0⟩ : MsgQ)) u1
    simp only [hn] at h
    exact h
  go_wp2_with fail
  refine HX.out.mono ?_
  rintro e u2 ⟨rfl, y⟩
  have HR2 : Hid (Rdr u2 g b l err) := HR1.out.below y
  have HB2 : Hid (Blk u2 p #[.int .i64 kind, .int .i64 frm, .int .i64 dst, .int .u64 num, .int .i64 node, .int .u64 0, .int .i64 0, .int .i64 0, .string ⟨#[]⟩, .string ⟨#[]⟩, .bool false, .int .i64 0] 27) := HB1.out.of (y.block _ HB1.out.lt)
  have HT2 : Hid (Two g p w u2) := HT1.out.below y
  clear y HX HR1 HB1 HT1
  clear z0 z1 z2 z3 z4 z5 z6 z7 z8 z9 z10 z11 f4 f5 f6 f7 f8 f9 f10 f11
  have z0 : u2.cell? ⟨p, 0, none⟩ = some (.int .i64 kind) := HB2.out.cell 0
  have z1 : u2.cell? ⟨p, 1, none⟩ = some (.int .i64 frm) := HB2.out.cell 1
  have z2 : u2.cell? ⟨p, 2, none⟩ = some (.int .i64 dst) := HB2.out.cell 2
  have z3 : u2.cell? ⟨p, 3, none⟩ = some (.int .u64 num) := HB2.out.cell 3
  have z4 : u2.cell? ⟨p, 4, none⟩ = some (.int .i64 node) := HB2.out.cell 4
  have z5 : u2.cell? ⟨p, 5, none⟩ = some (.int .u64 0) := HB2.out.cell 5
  have z6 : u2.cell? ⟨p, 6, none⟩ = some (.int .i64 0) := HB2.out.cell 6
  have z7 : u2.cell? ⟨p, 7, none⟩ = some (.int .i64 0) := HB2.out.cell 7
  have z8 : u2.cell? ⟨p, 8, none⟩ = some (.string ⟨#[]⟩) := HB2.out.cell 8
  have z9 : u2.cell? ⟨p, 9, none⟩ = some (.string ⟨#[]⟩) := HB2.out.cell 9
  have z10 : u2.cell? ⟨p, 10, none⟩ = some (.bool false) := HB2.out.cell 10
  have z11 : u2.cell? ⟨p, 11, none⟩ = some (.int .i64 0) := HB2.out.cell 11
  have f4 : u2.frozen? ⟨p, 4, none⟩ = false := HB2.out.frozen 4
  have f5 : u2.frozen? ⟨p, 5, none⟩ = false := HB2.out.frozen 5
  have f6 : u2.frozen? ⟨p, 6, none⟩ = false := HB2.out.frozen 6
  have f7 : u2.frozen? ⟨p, 7, none⟩ = false := HB2.out.frozen 7
  have f8 : u2.frozen? ⟨p, 8, none⟩ = false := HB2.out.frozen 8
  have f9 : u2.frozen? ⟨p, 9, none⟩ = false := HB2.out.frozen 9
  have f10 : u2.frozen? ⟨p, 10, none⟩ = false := HB2.out.frozen 10
  have f11 : u2.frozen? ⟨p, 11, none⟩ = false := HB2.out.frozen 11
  obtain ⟨v1, l1, e1, hq, hv1, hx⟩ := rintR 1048576 g b l err u2 HR2.out
  have HQ1 : Hid (rint 1048576 l err = (v1, l1, e1)) := hq
  have HX : Hid (Calls _ _ _ _ _) := hx
  have hw1 : IntKind.i64.wrap v1 = v1 := by rw [IntKind.wrap_i64]; omega
  clear hq hx hv1
  go_wp2_with fail
  refine HX.out.mono ?_
  rintro e u3 ⟨rfl, h1, h2⟩
  have HR3 : Hid (Rdr u3 g b l1 e1) := h1
  have HB3 : Hid (Blk u3 p #[.int .i64 kind, .int .i64 frm, .int .i64 dst, .int .u64 num, .int .i64 node, .int .u64 0, .int .i64 0, .int .i64 0, .string ⟨#[]⟩, .string ⟨#[]⟩, .bool false, .int .i64 0] 27) := HB2.out.gr h2 HD.out.1
  have HT3 : Hid (Two g p w u3) := HT2.out.grown h2
  clear h1 h2 HX HR2 HB2 HT2
  clear z0 z1 z2 z3 z4 z5 z6 z7 z8 z9 z10 z11 f4 f5 f6 f7 f8 f9 f10 f11
  have z0 : u3.cell? ⟨p, 0, none⟩ = some (.int .i64 kind) := HB3.out.cell 0
  have z1 : u3.cell? ⟨p, 1, none⟩ = some (.int .i64 frm) := HB3.out.cell 1
  have z2 : u3.cell? ⟨p, 2, none⟩ = some (.int .i64 dst) := HB3.out.cell 2
  have z3 : u3.cell? ⟨p, 3, none⟩ = some (.int .u64 num) := HB3.out.cell 3
  have z4 : u3.cell? ⟨p, 4, none⟩ = some (.int .i64 node) := HB3.out.cell 4
  have z5 : u3.cell? ⟨p, 5, none⟩ = some (.int .u64 0) := HB3.out.cell 5
  have z6 : u3.cell? ⟨p, 6, none⟩ = some (.int .i64 0) := HB3.out.cell 6
  have z7 : u3.cell? ⟨p, 7, none⟩ = some (.int .i64 0) := HB3.out.cell 7
  have z8 : u3.cell? ⟨p, 8, none⟩ = some (.string ⟨#[]⟩) := HB3.out.cell 8
  have z9 : u3.cell? ⟨p, 9, none⟩ = some (.string ⟨#[]⟩) := HB3.out.cell 9
  have z10 : u3.cell? ⟨p, 10, none⟩ = some (.bool false) := HB3.out.cell 10
  have z11 : u3.cell? ⟨p, 11, none⟩ = some (.int .i64 0) := HB3.out.cell 11
  have f4 : u3.frozen? ⟨p, 4, none⟩ = false := HB3.out.frozen 4
  have f5 : u3.frozen? ⟨p, 5, none⟩ = false := HB3.out.frozen 5
  have f6 : u3.frozen? ⟨p, 6, none⟩ = false := HB3.out.frozen 6
  have f7 : u3.frozen? ⟨p, 7, none⟩ = false := HB3.out.frozen 7
  have f8 : u3.frozen? ⟨p, 8, none⟩ = false := HB3.out.frozen 8
  have f9 : u3.frozen? ⟨p, 9, none⟩ = false := HB3.out.frozen 9
  have f10 : u3.frozen? ⟨p, 10, none⟩ = false := HB3.out.frozen 10
  have f11 : u3.frozen? ⟨p, 11, none⟩ = false := HB3.out.frozen 11
  have HB4 : Hid (Blk (u3.setCell ⟨p, 6, none⟩ (.int .i64 v1)) p #[.int .i64 kind, .int .i64 frm, .int .i64 dst, .int .u64 num, .int .i64 node, .int .u64 0, .int .i64 v1, .int .i64 0, .string ⟨#[]⟩, .string ⟨#[]⟩, .bool false, .int .i64 0] 27) := by have h := (HB3.out.set 6 (.int .i64 v1)); simp only [List.setIfInBounds_toArray, List.set_cons_succ, List.set_cons_zero] at h; exact h
  have HR4 : Hid (Rdr (u3.setCell ⟨p, 6, none⟩ (.int .i64 v1)) g b l1 e1) := (HR3.out.set HD.out.2.2.1 HD.out.2.2.2 6 (.int .i64 v1))
  have HT4 : Hid (Two g p w (u3.setCell ⟨p, 6, none⟩ (.int .i64 v1))) := (HT3.out.set 6 (.int .i64 v1))
  go_upto_region 4 with fail
  generalize (u3.setCell ⟨p, 6, none⟩ (.int .i64 v1)) = u4 at *
  clear HB3 HR3 HT3
  clear z0 z1 z2 z3 z4 z5 z6 z7 z8 z9 z10 z11 f4 f5 f6 f7 f8 f9 f10 f11
  have z0 : u4.cell? ⟨p, 0, none⟩ = some (.int .i64 kind) := HB4.out.cell 0
  have z1 : u4.cell? ⟨p, 1, none⟩ = some (.int .i64 frm) := HB4.out.cell 1
  have z2 : u4.cell? ⟨p, 2, none⟩ = some (.int .i64 dst) := HB4.out.cell 2
  have z3 : u4.cell? ⟨p, 3, none⟩ = some (.int .u64 num) := HB4.out.cell 3
  have z4 : u4.cell? ⟨p, 4, none⟩ = some (.int .i64 node) := HB4.out.cell 4
  have z5 : u4.cell? ⟨p, 5, none⟩ = some (.int .u64 0) := HB4.out.cell 5
  have z6 : u4.cell? ⟨p, 6, none⟩ = some (.int .i64 v1) := HB4.out.cell 6
  have z7 : u4.cell? ⟨p, 7, none⟩ = some (.int .i64 0) := HB4.out.cell 7
  have z8 : u4.cell? ⟨p, 8, none⟩ = some (.string ⟨#[]⟩) := HB4.out.cell 8
  have z9 : u4.cell? ⟨p, 9, none⟩ = some (.string ⟨#[]⟩) := HB4.out.cell 9
  have z10 : u4.cell? ⟨p, 10, none⟩ = some (.bool false) := HB4.out.cell 10
  have z11 : u4.cell? ⟨p, 11, none⟩ = some (.int .i64 0) := HB4.out.cell 11
  have f4 : u4.frozen? ⟨p, 4, none⟩ = false := HB4.out.frozen 4
  have f5 : u4.frozen? ⟨p, 5, none⟩ = false := HB4.out.frozen 5
  have f6 : u4.frozen? ⟨p, 6, none⟩ = false := HB4.out.frozen 6
  have f7 : u4.frozen? ⟨p, 7, none⟩ = false := HB4.out.frozen 7
  have f8 : u4.frozen? ⟨p, 8, none⟩ = false := HB4.out.frozen 8
  have f9 : u4.frozen? ⟨p, 9, none⟩ = false := HB4.out.frozen 9
  have f10 : u4.frozen? ⟨p, 10, none⟩ = false := HB4.out.frozen 10
  have f11 : u4.frozen? ⟨p, 11, none⟩ = false := HB4.out.frozen 11
  have HX : Hid (Calls Try.prog 19 #[.agg #[.int .i64 kind, .int .i64 frm, .int .i64 dst, .int .u64 num, .int .i64 node, .int .u64 0, .int .i64 v1, .int .i64 0, .string ⟨#[]⟩, .string ⟨#[]⟩, .bool false, .int .i64 0]] u4 fun e w' => e = .returned (.bool true) ∧ Below u4.heap.size u4 w') := by
    have h := hasCode_any ((⟨kind, frm, dst, num, node, 0, v1, 0, ⟨#[]⟩, ⟨#[]⟩, false, 0⟩ : MsgQ)) u4
    simp only [hc] at h
    exact h
  go_wp2_with fail
  refine HX.out.mono ?_
  rintro e u5 ⟨rfl, y⟩
  have HR5 : Hid (Rdr u5 g b l1 e1) := HR4.out.below y
  have HB5 : Hid (Blk u5 p #[.int .i64 kind, .int .i64 frm, .int .i64 dst, .int .u64 num, .int .i64 node, .int .u64 0, .int .i64 v1, .int .i64 0, .string ⟨#[]⟩, .string ⟨#[]⟩, .bool false, .int .i64 0] 27) := HB4.out.of (y.block _ HB4.out.lt)
  have HT5 : Hid (Two g p w u5) := HT4.out.below y
  clear y HX HR4 HB4 HT4
  clear z0 z1 z2 z3 z4 z5 z6 z7 z8 z9 z10 z11 f4 f5 f6 f7 f8 f9 f10 f11
  have z0 : u5.cell? ⟨p, 0, none⟩ = some (.int .i64 kind) := HB5.out.cell 0
  have z1 : u5.cell? ⟨p, 1, none⟩ = some (.int .i64 frm) := HB5.out.cell 1
  have z2 : u5.cell? ⟨p, 2, none⟩ = some (.int .i64 dst) := HB5.out.cell 2
  have z3 : u5.cell? ⟨p, 3, none⟩ = some (.int .u64 num) := HB5.out.cell 3
  have z4 : u5.cell? ⟨p, 4, none⟩ = some (.int .i64 node) := HB5.out.cell 4
  have z5 : u5.cell? ⟨p, 5, none⟩ = some (.int .u64 0) := HB5.out.cell 5
  have z6 : u5.cell? ⟨p, 6, none⟩ = some (.int .i64 v1) := HB5.out.cell 6
  have z7 : u5.cell? ⟨p, 7, none⟩ = some (.int .i64 0) := HB5.out.cell 7
  have z8 : u5.cell? ⟨p, 8, none⟩ = some (.string ⟨#[]⟩) := HB5.out.cell 8
  have z9 : u5.cell? ⟨p, 9, none⟩ = some (.string ⟨#[]⟩) := HB5.out.cell 9
  have z10 : u5.cell? ⟨p, 10, none⟩ = some (.bool false) := HB5.out.cell 10
  have z11 : u5.cell? ⟨p, 11, none⟩ = some (.int .i64 0) := HB5.out.cell 11
  have f4 : u5.frozen? ⟨p, 4, none⟩ = false := HB5.out.frozen 4
  have f5 : u5.frozen? ⟨p, 5, none⟩ = false := HB5.out.frozen 5
  have f6 : u5.frozen? ⟨p, 6, none⟩ = false := HB5.out.frozen 6
  have f7 : u5.frozen? ⟨p, 7, none⟩ = false := HB5.out.frozen 7
  have f8 : u5.frozen? ⟨p, 8, none⟩ = false := HB5.out.frozen 8
  have f9 : u5.frozen? ⟨p, 9, none⟩ = false := HB5.out.frozen 9
  have f10 : u5.frozen? ⟨p, 10, none⟩ = false := HB5.out.frozen 10
  have f11 : u5.frozen? ⟨p, 11, none⟩ = false := HB5.out.frozen 11
  obtain ⟨v2, l2, e2, hq, hv2, hx⟩ := rintR 17 g b l1 e1 u5 HR5.out
  have HQ2 : Hid (rint 17 l1 e1 = (v2, l2, e2)) := hq
  have HX : Hid (Calls _ _ _ _ _) := hx
  have hw2 : IntKind.i64.wrap v2 = v2 := by rw [IntKind.wrap_i64]; omega
  clear hq hx hv2
  go_wp2_with fail
  refine HX.out.mono ?_
  rintro e u6 ⟨rfl, h1, h2⟩
  have HR6 : Hid (Rdr u6 g b l2 e2) := h1
  have HB6 : Hid (Blk u6 p #[.int .i64 kind, .int .i64 frm, .int .i64 dst, .int .u64 num, .int .i64 node, .int .u64 0, .int .i64 v1, .int .i64 0, .string ⟨#[]⟩, .string ⟨#[]⟩, .bool false, .int .i64 0] 27) := HB5.out.gr h2 HD.out.1
  have HT6 : Hid (Two g p w u6) := HT5.out.grown h2
  clear h1 h2 HX HR5 HB5 HT5
  clear z0 z1 z2 z3 z4 z5 z6 z7 z8 z9 z10 z11 f4 f5 f6 f7 f8 f9 f10 f11
  have z0 : u6.cell? ⟨p, 0, none⟩ = some (.int .i64 kind) := HB6.out.cell 0
  have z1 : u6.cell? ⟨p, 1, none⟩ = some (.int .i64 frm) := HB6.out.cell 1
  have z2 : u6.cell? ⟨p, 2, none⟩ = some (.int .i64 dst) := HB6.out.cell 2
  have z3 : u6.cell? ⟨p, 3, none⟩ = some (.int .u64 num) := HB6.out.cell 3
  have z4 : u6.cell? ⟨p, 4, none⟩ = some (.int .i64 node) := HB6.out.cell 4
  have z5 : u6.cell? ⟨p, 5, none⟩ = some (.int .u64 0) := HB6.out.cell 5
  have z6 : u6.cell? ⟨p, 6, none⟩ = some (.int .i64 v1) := HB6.out.cell 6
  have z7 : u6.cell? ⟨p, 7, none⟩ = some (.int .i64 0) := HB6.out.cell 7
  have z8 : u6.cell? ⟨p, 8, none⟩ = some (.string ⟨#[]⟩) := HB6.out.cell 8
  have z9 : u6.cell? ⟨p, 9, none⟩ = some (.string ⟨#[]⟩) := HB6.out.cell 9
  have z10 : u6.cell? ⟨p, 10, none⟩ = some (.bool false) := HB6.out.cell 10
  have z11 : u6.cell? ⟨p, 11, none⟩ = some (.int .i64 0) := HB6.out.cell 11
  have f4 : u6.frozen? ⟨p, 4, none⟩ = false := HB6.out.frozen 4
  have f5 : u6.frozen? ⟨p, 5, none⟩ = false := HB6.out.frozen 5
  have f6 : u6.frozen? ⟨p, 6, none⟩ = false := HB6.out.frozen 6
  have f7 : u6.frozen? ⟨p, 7, none⟩ = false := HB6.out.frozen 7
  have f8 : u6.frozen? ⟨p, 8, none⟩ = false := HB6.out.frozen 8
  have f9 : u6.frozen? ⟨p, 9, none⟩ = false := HB6.out.frozen 9
  have f10 : u6.frozen? ⟨p, 10, none⟩ = false := HB6.out.frozen 10
  have f11 : u6.frozen? ⟨p, 11, none⟩ = false := HB6.out.frozen 11
  have HB7 : Hid (Blk (u6.setCell ⟨p, 11, none⟩ (.int .i64 v2)) p #[.int .i64 kind, .int .i64 frm, .int .i64 dst, .int .u64 num, .int .i64 node, .int .u64 0, .int .i64 v1, .int .i64 0, .string ⟨#[]⟩, .string ⟨#[]⟩, .bool false, .int .i64 v2] 27) := by have h := (HB6.out.set 11 (.int .i64 v2)); simp only [List.setIfInBounds_toArray, List.set_cons_succ, List.set_cons_zero] at h; exact h
  have HR7 : Hid (Rdr (u6.setCell ⟨p, 11, none⟩ (.int .i64 v2)) g b l2 e2) := (HR6.out.set HD.out.2.2.1 HD.out.2.2.2 11 (.int .i64 v2))
  have HT7 : Hid (Two g p w (u6.setCell ⟨p, 11, none⟩ (.int .i64 v2))) := (HT6.out.set 11 (.int .i64 v2))
  go_upto_region 8 with fail
  generalize (u6.setCell ⟨p, 11, none⟩ (.int .i64 v2)) = u7 at *
  clear HB6 HR6 HT6
  clear z0 z1 z2 z3 z4 z5 z6 z7 z8 z9 z10 z11 f4 f5 f6 f7 f8 f9 f10 f11
  have z0 : u7.cell? ⟨p, 0, none⟩ = some (.int .i64 kind) := HB7.out.cell 0
  have z1 : u7.cell? ⟨p, 1, none⟩ = some (.int .i64 frm) := HB7.out.cell 1
  have z2 : u7.cell? ⟨p, 2, none⟩ = some (.int .i64 dst) := HB7.out.cell 2
  have z3 : u7.cell? ⟨p, 3, none⟩ = some (.int .u64 num) := HB7.out.cell 3
  have z4 : u7.cell? ⟨p, 4, none⟩ = some (.int .i64 node) := HB7.out.cell 4
  have z5 : u7.cell? ⟨p, 5, none⟩ = some (.int .u64 0) := HB7.out.cell 5
  have z6 : u7.cell? ⟨p, 6, none⟩ = some (.int .i64 v1) := HB7.out.cell 6
  have z7 : u7.cell? ⟨p, 7, none⟩ = some (.int .i64 0) := HB7.out.cell 7
  have z8 : u7.cell? ⟨p, 8, none⟩ = some (.string ⟨#[]⟩) := HB7.out.cell 8
  have z9 : u7.cell? ⟨p, 9, none⟩ = some (.string ⟨#[]⟩) := HB7.out.cell 9
  have z10 : u7.cell? ⟨p, 10, none⟩ = some (.bool false) := HB7.out.cell 10
  have z11 : u7.cell? ⟨p, 11, none⟩ = some (.int .i64 v2) := HB7.out.cell 11
  have f4 : u7.frozen? ⟨p, 4, none⟩ = false := HB7.out.frozen 4
  have f5 : u7.frozen? ⟨p, 5, none⟩ = false := HB7.out.frozen 5
  have f6 : u7.frozen? ⟨p, 6, none⟩ = false := HB7.out.frozen 6
  have f7 : u7.frozen? ⟨p, 7, none⟩ = false := HB7.out.frozen 7
  have f8 : u7.frozen? ⟨p, 8, none⟩ = false := HB7.out.frozen 8
  have f9 : u7.frozen? ⟨p, 9, none⟩ = false := HB7.out.frozen 9
  have f10 : u7.frozen? ⟨p, 10, none⟩ = false := HB7.out.frozen 10
  have f11 : u7.frozen? ⟨p, 11, none⟩ = false := HB7.out.frozen 11
  obtain ⟨v3, l3, e3, hq, hv3, hx⟩ := rintR 1 g b l2 e2 u7 HR7.out
  have HQ3 : Hid (rint 1 l2 e2 = (v3, l3, e3)) := hq
  have HX : Hid (Calls _ _ _ _ _) := hx
  have hw3 : IntKind.i64.wrap v3 = v3 := by rw [IntKind.wrap_i64]; omega
  clear hq hx hv3
  go_wp2_with fail
  refine HX.out.mono ?_
  rintro e u8 ⟨rfl, h1, h2⟩
  have HR8 : Hid (Rdr u8 g b l3 e3) := h1
  have HB8 : Hid (Blk u8 p #[.int .i64 kind, .int .i64 frm, .int .i64 dst, .int .u64 num, .int .i64 node, .int .u64 0, .int .i64 v1, .int .i64 0, .string ⟨#[]⟩, .string ⟨#[]⟩, .bool false, .int .i64 v2] 27) := HB7.out.gr h2 HD.out.1
  have HT8 : Hid (Two g p w u8) := HT7.out.grown h2
  clear h1 h2 HX HR7 HB7 HT7
  clear z0 z1 z2 z3 z4 z5 z6 z7 z8 z9 z10 z11 f4 f5 f6 f7 f8 f9 f10 f11
  have z0 : u8.cell? ⟨p, 0, none⟩ = some (.int .i64 kind) := HB8.out.cell 0
  have z1 : u8.cell? ⟨p, 1, none⟩ = some (.int .i64 frm) := HB8.out.cell 1
  have z2 : u8.cell? ⟨p, 2, none⟩ = some (.int .i64 dst) := HB8.out.cell 2
  have z3 : u8.cell? ⟨p, 3, none⟩ = some (.int .u64 num) := HB8.out.cell 3
  have z4 : u8.cell? ⟨p, 4, none⟩ = some (.int .i64 node) := HB8.out.cell 4
  have z5 : u8.cell? ⟨p, 5, none⟩ = some (.int .u64 0) := HB8.out.cell 5
  have z6 : u8.cell? ⟨p, 6, none⟩ = some (.int .i64 v1) := HB8.out.cell 6
  have z7 : u8.cell? ⟨p, 7, none⟩ = some (.int .i64 0) := HB8.out.cell 7
  have z8 : u8.cell? ⟨p, 8, none⟩ = some (.string ⟨#[]⟩) := HB8.out.cell 8
  have z9 : u8.cell? ⟨p, 9, none⟩ = some (.string ⟨#[]⟩) := HB8.out.cell 9
  have z10 : u8.cell? ⟨p, 10, none⟩ = some (.bool false) := HB8.out.cell 10
  have z11 : u8.cell? ⟨p, 11, none⟩ = some (.int .i64 v2) := HB8.out.cell 11
  have f4 : u8.frozen? ⟨p, 4, none⟩ = false := HB8.out.frozen 4
  have f5 : u8.frozen? ⟨p, 5, none⟩ = false := HB8.out.frozen 5
  have f6 : u8.frozen? ⟨p, 6, none⟩ = false := HB8.out.frozen 6
  have f7 : u8.frozen? ⟨p, 7, none⟩ = false := HB8.out.frozen 7
  have f8 : u8.frozen? ⟨p, 8, none⟩ = false := HB8.out.frozen 8
  have f9 : u8.frozen? ⟨p, 9, none⟩ = false := HB8.out.frozen 9
  have f10 : u8.frozen? ⟨p, 10, none⟩ = false := HB8.out.frozen 10
  have f11 : u8.frozen? ⟨p, 11, none⟩ = false := HB8.out.frozen 11
  obtain ⟨bb, hbb⟩ : ∃ y : Bool, (v3 == 1) = y := ⟨_, rfl⟩
  have HBB : Hid ((v3 == 1) = bb) := hbb
  obtain ⟨v4, l4, e4, hq, hv4, hx⟩ := rstrR 48 (by omega) g b l3 e3 u8 HR8.out
  have HQ4 : Hid (rstr 48 l3 e3 = (v4, l4, e4)) := hq
  have HX : Hid (Calls _ _ _ _ _) := hx
  clear hq hx hv4
  go_wp2_with fail
  refine HX.out.mono ?_
  rintro e u9 ⟨rfl, h1, h2⟩
  have HR9 : Hid (Rdr u9 g b l4 e4) := h1
  have HB9 : Hid (Blk u9 p #[.int .i64 kind, .int .i64 frm, .int .i64 dst, .int .u64 num, .int .i64 node, .int .u64 0, .int .i64 v1, .int .i64 0, .string ⟨#[]⟩, .string ⟨#[]⟩, .bool false, .int .i64 v2] 27) := HB8.out.gr h2 HD.out.1
  have HT9 : Hid (Two g p w u9) := HT8.out.grown h2
  clear h1 h2 HX HR8 HB8 HT8
  clear z0 z1 z2 z3 z4 z5 z6 z7 z8 z9 z10 z11 f4 f5 f6 f7 f8 f9 f10 f11
  have z0 : u9.cell? ⟨p, 0, none⟩ = some (.int .i64 kind) := HB9.out.cell 0
  have z1 : u9.cell? ⟨p, 1, none⟩ = some (.int .i64 frm) := HB9.out.cell 1
  have z2 : u9.cell? ⟨p, 2, none⟩ = some (.int .i64 dst) := HB9.out.cell 2
  have z3 : u9.cell? ⟨p, 3, none⟩ = some (.int .u64 num) := HB9.out.cell 3
  have z4 : u9.cell? ⟨p, 4, none⟩ = some (.int .i64 node) := HB9.out.cell 4
  have z5 : u9.cell? ⟨p, 5, none⟩ = some (.int .u64 0) := HB9.out.cell 5
  have z6 : u9.cell? ⟨p, 6, none⟩ = some (.int .i64 v1) := HB9.out.cell 6
  have z7 : u9.cell? ⟨p, 7, none⟩ = some (.int .i64 0) := HB9.out.cell 7
  have z8 : u9.cell? ⟨p, 8, none⟩ = some (.string ⟨#[]⟩) := HB9.out.cell 8
  have z9 : u9.cell? ⟨p, 9, none⟩ = some (.string ⟨#[]⟩) := HB9.out.cell 9
  have z10 : u9.cell? ⟨p, 10, none⟩ = some (.bool false) := HB9.out.cell 10
  have z11 : u9.cell? ⟨p, 11, none⟩ = some (.int .i64 v2) := HB9.out.cell 11
  have f4 : u9.frozen? ⟨p, 4, none⟩ = false := HB9.out.frozen 4
  have f5 : u9.frozen? ⟨p, 5, none⟩ = false := HB9.out.frozen 5
  have f6 : u9.frozen? ⟨p, 6, none⟩ = false := HB9.out.frozen 6
  have f7 : u9.frozen? ⟨p, 7, none⟩ = false := HB9.out.frozen 7
  have f8 : u9.frozen? ⟨p, 8, none⟩ = false := HB9.out.frozen 8
  have f9 : u9.frozen? ⟨p, 9, none⟩ = false := HB9.out.frozen 9
  have f10 : u9.frozen? ⟨p, 10, none⟩ = false := HB9.out.frozen 10
  have f11 : u9.frozen? ⟨p, 11, none⟩ = false := HB9.out.frozen 11
  have HB10 : Hid (Blk ((u9.setCell ⟨p, 10, none⟩ (.bool bb)).setCell ⟨p, 9, none⟩ (.string v4)) p #[.int .i64 kind, .int .i64 frm, .int .i64 dst, .int .u64 num, .int .i64 node, .int .u64 0, .int .i64 v1, .int .i64 0, .string ⟨#[]⟩, .string v4, .bool bb, .int .i64 v2] 27) := by have h := ((HB9.out.set 10 (.bool bb)).set 9 (.string v4)); simp only [List.setIfInBounds_toArray, List.set_cons_succ, List.set_cons_zero] at h; exact h
  have HR10 : Hid (Rdr ((u9.setCell ⟨p, 10, none⟩ (.bool bb)).setCell ⟨p, 9, none⟩ (.string v4)) g b l4 e4) := ((HR9.out.set HD.out.2.2.1 HD.out.2.2.2 10 (.bool bb)).set HD.out.2.2.1 HD.out.2.2.2 9 (.string v4))
  have HT10 : Hid (Two g p w ((u9.setCell ⟨p, 10, none⟩ (.bool bb)).setCell ⟨p, 9, none⟩ (.string v4))) := ((HT9.out.set 10 (.bool bb)).set 9 (.string v4))
  go_wp2
  generalize ((u9.setCell ⟨p, 10, none⟩ (.bool bb)).setCell ⟨p, 9, none⟩ (.string v4)) = u10 at *
  clear HB9 HR9 HT9
  clear z0 z1 z2 z3 z4 z5 z6 z7 z8 z9 z10 z11 f4 f5 f6 f7 f8 f9 f10 f11
  have HEQ : Hid (rbody kind frm dst (num, node) l err = (⟨kind, frm, dst, num, node, 0, v1, 0, ⟨#[]⟩, v4, bb, v2⟩, l4, e4)) := by
    show _ = _
    have hfl : rflag l2 e2 = (bb, l3, e3) := by
      have h := HQ3.out
      unfold rint at h
      simp only [Prod.mk.injEq] at h
      unfold rflag
      rw [h.1, HBB.out, h.2]
    have P3 : (kind = 3) = False := eq_false (by have := HK.out; omega)
    have P4 : (kind = 4) = True := eq_true (by have := HK.out; omega)
    simp only [rbody, rb, rlife, rn, rdo, rcode, rdid, rp, hl, hn, hc, P3, P4, if_true, if_false, Bool.false_eq_true, HQ1.out, HQ2.out, HQ4.out, hfl] <;> rfl
  go_end0
  rw [HEQ.out]
  exact ⟨rfl, HB10.out, HR10.out, HT10.out⟩
set_option maxRecDepth 100000 in
set_option maxHeartbeats 8000000 in
theorem read5_any (p g b : Nat) (l : List UInt8) (err : Nat) (kind frm dst num node : Int) (w : World) (h : Rdr w g b l err) (hb : Blk w p #[.int .i64 kind, .int .i64 frm, .int .i64 dst, .int .u64 num, .int .i64 node, .int .u64 0, .int .i64 0, .int .i64 0, .string ⟨#[]⟩, .string ⟨#[]⟩, .bool false, .int .i64 0] 27) (hpg : p ≠ g) (hpb : p ≠ b) (hk : kind = 5) : Calls Try.prog 32 #[.pointer (some ⟨p, 0, none⟩), .pointer (some ⟨g, 0, none⟩)] w (RdM (rbody kind frm dst (num, node) l err) p g b w) := by
  have hl : hasLifeB kind = true := decide_eq_true (by omega)
  have hn : hasNB kind = true := decide_eq_true (by omega)
  have hc : hasCodeB kind = false := decide_eq_false (by omega)
  have e3 : (kind == 3) = false := by simp [hk]
  have e4 : (kind == 4) = false := by simp [hk]
  have HK : Hid (kind = 5) := hk
  have HR0 : Hid (Rdr w g b l err) := h
  have HB0 : Hid (Blk w p #[.int .i64 kind, .int .i64 frm, .int .i64 dst, .int .u64 num, .int .i64 node, .int .u64 0, .int .i64 0, .int .i64 0, .string ⟨#[]⟩, .string ⟨#[]⟩, .bool false, .int .i64 0] 27) := hb
  have HT0 : Hid (Two g p w w) := Two.refl _ _ _
  have HD : Hid (p ≠ g ∧ p ≠ b ∧ g ≠ p ∧ b ≠ p) := ⟨hpg, hpb, hpg.symm, hpb.symm⟩
  clear h hb hpg hpb hk
  go_enter Try.func32, Try.ntmps32
  have z0 : w.cell? ⟨p, 0, none⟩ = some (.int .i64 kind) := HB0.out.cell 0
  have z1 : w.cell? ⟨p, 1, none⟩ = some (.int .i64 frm) := HB0.out.cell 1
  have z2 : w.cell? ⟨p, 2, none⟩ = some (.int .i64 dst) := HB0.out.cell 2
  have z3 : w.cell? ⟨p, 3, none⟩ = some (.int .u64 num) := HB0.out.cell 3
  have z4 : w.cell? ⟨p, 4, none⟩ = some (.int .i64 node) := HB0.out.cell 4
  have z5 : w.cell? ⟨p, 5, none⟩ = some (.int .u64 0) := HB0.out.cell 5
  have z6 : w.cell? ⟨p, 6, none⟩ = some (.int .i64 0) := HB0.out.cell 6
  have z7 : w.cell? ⟨p, 7, none⟩ = some (.int .i64 0) := HB0.out.cell 7
  have z8 : w.cell? ⟨p, 8, none⟩ = some (.string ⟨#[]⟩) := HB0.out.cell 8
  have z9 : w.cell? ⟨p, 9, none⟩ = some (.string ⟨#[]⟩) := HB0.out.cell 9
  have z10 : w.cell? ⟨p, 10, none⟩ = some (.bool false) := HB0.out.cell 10
  have z11 : w.cell? ⟨p, 11, none⟩ = some (.int .i64 0) := HB0.out.cell 11
  have f4 : w.frozen? ⟨p, 4, none⟩ = false := HB0.out.frozen 4
  have f5 : w.frozen? ⟨p, 5, none⟩ = false := HB0.out.frozen 5
  have f6 : w.frozen? ⟨p, 6, none⟩ = false := HB0.out.frozen 6
  have f7 : w.frozen? ⟨p, 7, none⟩ = false := HB0.out.frozen 7
  have f8 : w.frozen? ⟨p, 8, none⟩ = false := HB0.out.frozen 8
  have f9 : w.frozen? ⟨p, 9, none⟩ = false := HB0.out.frozen 9
  have f10 : w.frozen? ⟨p, 10, none⟩ = false := HB0.out.frozen 10
  have f11 : w.frozen? ⟨p, 11, none⟩ = false := HB0.out.frozen 11
  have HX : Hid (Calls Try.prog 15 #[.agg #[.int .i64 kind, .int .i64 frm, .int .i64 dst, .int .u64 num, .int .i64 node, .int .u64 0, .int .i64 0, .int .i64 0, .string ⟨#[]⟩, .string ⟨#[]⟩, .bool false, .int .i64 0]] w fun e w' => e = .returned (.bool true) ∧ Below w.heap.size w w') := by
    have h := hasLife_any ((⟨kind, frm, dst, num, node, 0, 0, 0, ⟨#[]⟩, ⟨#[]⟩, false, 0⟩ : MsgQ)) w
    simp only [hl] at h
    exact h
  go_wp2_with fail
  refine HX.out.mono ?_
  rintro e u1 ⟨rfl, y⟩
  have HR1 : Hid (Rdr u1 g b l err) := HR0.out.below y
  have HB1 : Hid (Blk u1 p #[.int .i64 kind, .int .i64 frm, .int .i64 dst, .int .u64 num, .int .i64 node, .int .u64 0, .int .i64 0, .int .i64 0, .string ⟨#[]⟩, .string ⟨#[]⟩, .bool false, .int .i64 0] 27) := HB0.out.of (y.block _ HB0.out.lt)
  have HT1 : Hid (Two g p w u1) := HT0.out.below y
  clear y HX HR0 HB0 HT0
  clear z0 z1 z2 z3 z4 z5 z6 z7 z8 z9 z10 z11 f4 f5 f6 f7 f8 f9 f10 f11
  have z0 : u1.cell? ⟨p, 0, none⟩ = some (.int .i64 kind) := HB1.out.cell 0
  have z1 : u1.cell? ⟨p, 1, none⟩ = some (.int .i64 frm) := HB1.out.cell 1
  have z2 : u1.cell? ⟨p, 2, none⟩ = some (.int .i64 dst) := HB1.out.cell 2
  have z3 : u1.cell? ⟨p, 3, none⟩ = some (.int .u64 num) := HB1.out.cell 3
  have z4 : u1.cell? ⟨p, 4, none⟩ = some (.int .i64 node) := HB1.out.cell 4
  have z5 : u1.cell? ⟨p, 5, none⟩ = some (.int .u64 0) := HB1.out.cell 5
  have z6 : u1.cell? ⟨p, 6, none⟩ = some (.int .i64 0) := HB1.out.cell 6
  have z7 : u1.cell? ⟨p, 7, none⟩ = some (.int .i64 0) := HB1.out.cell 7
  have z8 : u1.cell? ⟨p, 8, none⟩ = some (.string ⟨#[]⟩) := HB1.out.cell 8
  have z9 : u1.cell? ⟨p, 9, none⟩ = some (.string ⟨#[]⟩) := HB1.out.cell 9
  have z10 : u1.cell? ⟨p, 10, none⟩ = some (.bool false) := HB1.out.cell 10
  have z11 : u1.cell? ⟨p, 11, none⟩ = some (.int .i64 0) := HB1.out.cell 11
  have f4 : u1.frozen? ⟨p, 4, none⟩ = false := HB1.out.frozen 4
  have f5 : u1.frozen? ⟨p, 5, none⟩ = false := HB1.out.frozen 5
  have f6 : u1.frozen? ⟨p, 6, none⟩ = false := HB1.out.frozen 6
  have f7 : u1.frozen? ⟨p, 7, none⟩ = false := HB1.out.frozen 7
  have f8 : u1.frozen? ⟨p, 8, none⟩ = false := HB1.out.frozen 8
  have f9 : u1.frozen? ⟨p, 9, none⟩ = false := HB1.out.frozen 9
  have f10 : u1.frozen? ⟨p, 10, none⟩ = false := HB1.out.frozen 10
  have f11 : u1.frozen? ⟨p, 11, none⟩ = false := HB1.out.frozen 11
  obtain ⟨v1, l1, e1, hq, hv1, hx⟩ := rintR 1099511627776 g b l err u1 HR1.out
  have HQ1 : Hid (rint 1099511627776 l err = (v1, l1, e1)) := hq
  have HX : Hid (Calls _ _ _ _ _) := hx
  have hw1 : IntKind.i64.wrap v1 = v1 := by rw [IntKind.wrap_i64]; omega
  clear hq hx hv1
  go_wp2_with fail
  refine HX.out.mono ?_
  rintro e u2 ⟨rfl, h1, h2⟩
  have HR2 : Hid (Rdr u2 g b l1 e1) := h1
  have HB2 : Hid (Blk u2 p #[.int .i64 kind, .int .i64 frm, .int .i64 dst, .int .u64 num, .int .i64 node, .int .u64 0, .int .i64 0, .int .i64 0, .string ⟨#[]⟩, .string ⟨#[]⟩, .bool false, .int .i64 0] 27) := HB1.out.gr h2 HD.out.1
  have HT2 : Hid (Two g p w u2) := HT1.out.grown h2
  clear h1 h2 HX HR1 HB1 HT1
  clear z0 z1 z2 z3 z4 z5 z6 z7 z8 z9 z10 z11 f4 f5 f6 f7 f8 f9 f10 f11
  have z0 : u2.cell? ⟨p, 0, none⟩ = some (.int .i64 kind) := HB2.out.cell 0
  have z1 : u2.cell? ⟨p, 1, none⟩ = some (.int .i64 frm) := HB2.out.cell 1
  have z2 : u2.cell? ⟨p, 2, none⟩ = some (.int .i64 dst) := HB2.out.cell 2
  have z3 : u2.cell? ⟨p, 3, none⟩ = some (.int .u64 num) := HB2.out.cell 3
  have z4 : u2.cell? ⟨p, 4, none⟩ = some (.int .i64 node) := HB2.out.cell 4
  have z5 : u2.cell? ⟨p, 5, none⟩ = some (.int .u64 0) := HB2.out.cell 5
  have z6 : u2.cell? ⟨p, 6, none⟩ = some (.int .i64 0) := HB2.out.cell 6
  have z7 : u2.cell? ⟨p, 7, none⟩ = some (.int .i64 0) := HB2.out.cell 7
  have z8 : u2.cell? ⟨p, 8, none⟩ = some (.string ⟨#[]⟩) := HB2.out.cell 8
  have z9 : u2.cell? ⟨p, 9, none⟩ = some (.string ⟨#[]⟩) := HB2.out.cell 9
  have z10 : u2.cell? ⟨p, 10, none⟩ = some (.bool false) := HB2.out.cell 10
  have z11 : u2.cell? ⟨p, 11, none⟩ = some (.int .i64 0) := HB2.out.cell 11
  have f4 : u2.frozen? ⟨p, 4, none⟩ = false := HB2.out.frozen 4
  have f5 : u2.frozen? ⟨p, 5, none⟩ = false := HB2.out.frozen 5
  have f6 : u2.frozen? ⟨p, 6, none⟩ = false := HB2.out.frozen 6
  have f7 : u2.frozen? ⟨p, 7, none⟩ = false := HB2.out.frozen 7
  have f8 : u2.frozen? ⟨p, 8, none⟩ = false := HB2.out.frozen 8
  have f9 : u2.frozen? ⟨p, 9, none⟩ = false := HB2.out.frozen 9
  have f10 : u2.frozen? ⟨p, 10, none⟩ = false := HB2.out.frozen 10
  have f11 : u2.frozen? ⟨p, 11, none⟩ = false := HB2.out.frozen 11
  have HB3 : Hid (Blk (u2.setCell ⟨p, 5, none⟩ (.int .u64 v1)) p #[.int .i64 kind, .int .i64 frm, .int .i64 dst, .int .u64 num, .int .i64 node, .int .u64 v1, .int .i64 0, .int .i64 0, .string ⟨#[]⟩, .string ⟨#[]⟩, .bool false, .int .i64 0] 27) := by have h := (HB2.out.set 5 (.int .u64 v1)); simp only [List.setIfInBounds_toArray, List.set_cons_succ, List.set_cons_zero] at h; exact h
  have HR3 : Hid (Rdr (u2.setCell ⟨p, 5, none⟩ (.int .u64 v1)) g b l1 e1) := (HR2.out.set HD.out.2.2.1 HD.out.2.2.2 5 (.int .u64 v1))
  have HT3 : Hid (Two g p w (u2.setCell ⟨p, 5, none⟩ (.int .u64 v1))) := (HT2.out.set 5 (.int .u64 v1))
  go_upto_region 2 with fail
  generalize (u2.setCell ⟨p, 5, none⟩ (.int .u64 v1)) = u3 at *
  clear HB2 HR2 HT2
  clear z0 z1 z2 z3 z4 z5 z6 z7 z8 z9 z10 z11 f4 f5 f6 f7 f8 f9 f10 f11
  have z0 : u3.cell? ⟨p, 0, none⟩ = some (.int .i64 kind) := HB3.out.cell 0
  have z1 : u3.cell? ⟨p, 1, none⟩ = some (.int .i64 frm) := HB3.out.cell 1
  have z2 : u3.cell? ⟨p, 2, none⟩ = some (.int .i64 dst) := HB3.out.cell 2
  have z3 : u3.cell? ⟨p, 3, none⟩ = some (.int .u64 num) := HB3.out.cell 3
  have z4 : u3.cell? ⟨p, 4, none⟩ = some (.int .i64 node) := HB3.out.cell 4
  have z5 : u3.cell? ⟨p, 5, none⟩ = some (.int .u64 v1) := HB3.out.cell 5
  have z6 : u3.cell? ⟨p, 6, none⟩ = some (.int .i64 0) := HB3.out.cell 6
  have z7 : u3.cell? ⟨p, 7, none⟩ = some (.int .i64 0) := HB3.out.cell 7
  have z8 : u3.cell? ⟨p, 8, none⟩ = some (.string ⟨#[]⟩) := HB3.out.cell 8
  have z9 : u3.cell? ⟨p, 9, none⟩ = some (.string ⟨#[]⟩) := HB3.out.cell 9
  have z10 : u3.cell? ⟨p, 10, none⟩ = some (.bool false) := HB3.out.cell 10
  have z11 : u3.cell? ⟨p, 11, none⟩ = some (.int .i64 0) := HB3.out.cell 11
  have f4 : u3.frozen? ⟨p, 4, none⟩ = false := HB3.out.frozen 4
  have f5 : u3.frozen? ⟨p, 5, none⟩ = false := HB3.out.frozen 5
  have f6 : u3.frozen? ⟨p, 6, none⟩ = false := HB3.out.frozen 6
  have f7 : u3.frozen? ⟨p, 7, none⟩ = false := HB3.out.frozen 7
  have f8 : u3.frozen? ⟨p, 8, none⟩ = false := HB3.out.frozen 8
  have f9 : u3.frozen? ⟨p, 9, none⟩ = false := HB3.out.frozen 9
  have f10 : u3.frozen? ⟨p, 10, none⟩ = false := HB3.out.frozen 10
  have f11 : u3.frozen? ⟨p, 11, none⟩ = false := HB3.out.frozen 11
  have HX : Hid (Calls Try.prog 17 #[.agg #[.int .i64 kind, .int .i64 frm, .int .i64 dst, .int .u64 num, .int .i64 node, .int .u64 v1, .int .i64 0, .int .i64 0, .string ⟨#[]⟩, .string ⟨#[]⟩, .bool false, .int .i64 0]] u3 fun e w' => e = .returned (.bool true) ∧ Below u3.heap.size u3 w') := by
    have h := hasN_any ((⟨kind, frm, dst, num, node, v1, 0, 0, ⟨#[]⟩, ⟨#[]⟩, false, 0⟩ : MsgQ)) u3
    simp only [hn] at h
    exact h
  go_wp2_with fail
  refine HX.out.mono ?_
  rintro e u4 ⟨rfl, y⟩
  have HR4 : Hid (Rdr u4 g b l1 e1) := HR3.out.below y
  have HB4 : Hid (Blk u4 p #[.int .i64 kind, .int .i64 frm, .int .i64 dst, .int .u64 num, .int .i64 node, .int .u64 v1, .int .i64 0, .int .i64 0, .string ⟨#[]⟩, .string ⟨#[]⟩, .bool false, .int .i64 0] 27) := HB3.out.of (y.block _ HB3.out.lt)
  have HT4 : Hid (Two g p w u4) := HT3.out.below y
  clear y HX HR3 HB3 HT3
  clear z0 z1 z2 z3 z4 z5 z6 z7 z8 z9 z10 z11 f4 f5 f6 f7 f8 f9 f10 f11
  have z0 : u4.cell? ⟨p, 0, none⟩ = some (.int .i64 kind) := HB4.out.cell 0
  have z1 : u4.cell? ⟨p, 1, none⟩ = some (.int .i64 frm) := HB4.out.cell 1
  have z2 : u4.cell? ⟨p, 2, none⟩ = some (.int .i64 dst) := HB4.out.cell 2
  have z3 : u4.cell? ⟨p, 3, none⟩ = some (.int .u64 num) := HB4.out.cell 3
  have z4 : u4.cell? ⟨p, 4, none⟩ = some (.int .i64 node) := HB4.out.cell 4
  have z5 : u4.cell? ⟨p, 5, none⟩ = some (.int .u64 v1) := HB4.out.cell 5
  have z6 : u4.cell? ⟨p, 6, none⟩ = some (.int .i64 0) := HB4.out.cell 6
  have z7 : u4.cell? ⟨p, 7, none⟩ = some (.int .i64 0) := HB4.out.cell 7
  have z8 : u4.cell? ⟨p, 8, none⟩ = some (.string ⟨#[]⟩) := HB4.out.cell 8
  have z9 : u4.cell? ⟨p, 9, none⟩ = some (.string ⟨#[]⟩) := HB4.out.cell 9
  have z10 : u4.cell? ⟨p, 10, none⟩ = some (.bool false) := HB4.out.cell 10
  have z11 : u4.cell? ⟨p, 11, none⟩ = some (.int .i64 0) := HB4.out.cell 11
  have f4 : u4.frozen? ⟨p, 4, none⟩ = false := HB4.out.frozen 4
  have f5 : u4.frozen? ⟨p, 5, none⟩ = false := HB4.out.frozen 5
  have f6 : u4.frozen? ⟨p, 6, none⟩ = false := HB4.out.frozen 6
  have f7 : u4.frozen? ⟨p, 7, none⟩ = false := HB4.out.frozen 7
  have f8 : u4.frozen? ⟨p, 8, none⟩ = false := HB4.out.frozen 8
  have f9 : u4.frozen? ⟨p, 9, none⟩ = false := HB4.out.frozen 9
  have f10 : u4.frozen? ⟨p, 10, none⟩ = false := HB4.out.frozen 10
  have f11 : u4.frozen? ⟨p, 11, none⟩ = false := HB4.out.frozen 11
  obtain ⟨v2, l2, e2, hq, hv2, hx⟩ := rintR 1048576 g b l1 e1 u4 HR4.out
  have HQ2 : Hid (rint 1048576 l1 e1 = (v2, l2, e2)) := hq
  have HX : Hid (Calls _ _ _ _ _) := hx
  have hw2 : IntKind.i64.wrap v2 = v2 := by rw [IntKind.wrap_i64]; omega
  clear hq hx hv2
  go_wp2_with fail
  refine HX.out.mono ?_
  rintro e u5 ⟨rfl, h1, h2⟩
  have HR5 : Hid (Rdr u5 g b l2 e2) := h1
  have HB5 : Hid (Blk u5 p #[.int .i64 kind, .int .i64 frm, .int .i64 dst, .int .u64 num, .int .i64 node, .int .u64 v1, .int .i64 0, .int .i64 0, .string ⟨#[]⟩, .string ⟨#[]⟩, .bool false, .int .i64 0] 27) := HB4.out.gr h2 HD.out.1
  have HT5 : Hid (Two g p w u5) := HT4.out.grown h2
  clear h1 h2 HX HR4 HB4 HT4
  clear z0 z1 z2 z3 z4 z5 z6 z7 z8 z9 z10 z11 f4 f5 f6 f7 f8 f9 f10 f11
  have z0 : u5.cell? ⟨p, 0, none⟩ = some (.int .i64 kind) := HB5.out.cell 0
  have z1 : u5.cell? ⟨p, 1, none⟩ = some (.int .i64 frm) := HB5.out.cell 1
  have z2 : u5.cell? ⟨p, 2, none⟩ = some (.int .i64 dst) := HB5.out.cell 2
  have z3 : u5.cell? ⟨p, 3, none⟩ = some (.int .u64 num) := HB5.out.cell 3
  have z4 : u5.cell? ⟨p, 4, none⟩ = some (.int .i64 node) := HB5.out.cell 4
  have z5 : u5.cell? ⟨p, 5, none⟩ = some (.int .u64 v1) := HB5.out.cell 5
  have z6 : u5.cell? ⟨p, 6, none⟩ = some (.int .i64 0) := HB5.out.cell 6
  have z7 : u5.cell? ⟨p, 7, none⟩ = some (.int .i64 0) := HB5.out.cell 7
  have z8 : u5.cell? ⟨p, 8, none⟩ = some (.string ⟨#[]⟩) := HB5.out.cell 8
  have z9 : u5.cell? ⟨p, 9, none⟩ = some (.string ⟨#[]⟩) := HB5.out.cell 9
  have z10 : u5.cell? ⟨p, 10, none⟩ = some (.bool false) := HB5.out.cell 10
  have z11 : u5.cell? ⟨p, 11, none⟩ = some (.int .i64 0) := HB5.out.cell 11
  have f4 : u5.frozen? ⟨p, 4, none⟩ = false := HB5.out.frozen 4
  have f5 : u5.frozen? ⟨p, 5, none⟩ = false := HB5.out.frozen 5
  have f6 : u5.frozen? ⟨p, 6, none⟩ = false := HB5.out.frozen 6
  have f7 : u5.frozen? ⟨p, 7, none⟩ = false := HB5.out.frozen 7
  have f8 : u5.frozen? ⟨p, 8, none⟩ = false := HB5.out.frozen 8
  have f9 : u5.frozen? ⟨p, 9, none⟩ = false := HB5.out.frozen 9
  have f10 : u5.frozen? ⟨p, 10, none⟩ = false := HB5.out.frozen 10
  have f11 : u5.frozen? ⟨p, 11, none⟩ = false := HB5.out.frozen 11
  have HB6 : Hid (Blk (u5.setCell ⟨p, 6, none⟩ (.int .i64 v2)) p #[.int .i64 kind, .int .i64 frm, .int .i64 dst, .int .u64 num, .int .i64 node, .int .u64 v1, .int .i64 v2, .int .i64 0, .string ⟨#[]⟩, .string ⟨#[]⟩, .bool false, .int .i64 0] 27) := by have h := (HB5.out.set 6 (.int .i64 v2)); simp only [List.setIfInBounds_toArray, List.set_cons_succ, List.set_cons_zero] at h; exact h
  have HR6 : Hid (Rdr (u5.setCell ⟨p, 6, none⟩ (.int .i64 v2)) g b l2 e2) := (HR5.out.set HD.out.2.2.1 HD.out.2.2.2 6 (.int .i64 v2))
  have HT6 : Hid (Two g p w (u5.setCell ⟨p, 6, none⟩ (.int .i64 v2))) := (HT5.out.set 6 (.int .i64 v2))
  go_upto_region 4 with fail
  generalize (u5.setCell ⟨p, 6, none⟩ (.int .i64 v2)) = u6 at *
  clear HB5 HR5 HT5
  clear z0 z1 z2 z3 z4 z5 z6 z7 z8 z9 z10 z11 f4 f5 f6 f7 f8 f9 f10 f11
  have z0 : u6.cell? ⟨p, 0, none⟩ = some (.int .i64 kind) := HB6.out.cell 0
  have z1 : u6.cell? ⟨p, 1, none⟩ = some (.int .i64 frm) := HB6.out.cell 1
  have z2 : u6.cell? ⟨p, 2, none⟩ = some (.int .i64 dst) := HB6.out.cell 2
  have z3 : u6.cell? ⟨p, 3, none⟩ = some (.int .u64 num) := HB6.out.cell 3
  have z4 : u6.cell? ⟨p, 4, none⟩ = some (.int .i64 node) := HB6.out.cell 4
  have z5 : u6.cell? ⟨p, 5, none⟩ = some (.int .u64 v1) := HB6.out.cell 5
  have z6 : u6.cell? ⟨p, 6, none⟩ = some (.int .i64 v2) := HB6.out.cell 6
  have z7 : u6.cell? ⟨p, 7, none⟩ = some (.int .i64 0) := HB6.out.cell 7
  have z8 : u6.cell? ⟨p, 8, none⟩ = some (.string ⟨#[]⟩) := HB6.out.cell 8
  have z9 : u6.cell? ⟨p, 9, none⟩ = some (.string ⟨#[]⟩) := HB6.out.cell 9
  have z10 : u6.cell? ⟨p, 10, none⟩ = some (.bool false) := HB6.out.cell 10
  have z11 : u6.cell? ⟨p, 11, none⟩ = some (.int .i64 0) := HB6.out.cell 11
  have f4 : u6.frozen? ⟨p, 4, none⟩ = false := HB6.out.frozen 4
  have f5 : u6.frozen? ⟨p, 5, none⟩ = false := HB6.out.frozen 5
  have f6 : u6.frozen? ⟨p, 6, none⟩ = false := HB6.out.frozen 6
  have f7 : u6.frozen? ⟨p, 7, none⟩ = false := HB6.out.frozen 7
  have f8 : u6.frozen? ⟨p, 8, none⟩ = false := HB6.out.frozen 8
  have f9 : u6.frozen? ⟨p, 9, none⟩ = false := HB6.out.frozen 9
  have f10 : u6.frozen? ⟨p, 10, none⟩ = false := HB6.out.frozen 10
  have f11 : u6.frozen? ⟨p, 11, none⟩ = false := HB6.out.frozen 11
  have HX : Hid (Calls Try.prog 19 #[.agg #[.int .i64 kind, .int .i64 frm, .int .i64 dst, .int .u64 num, .int .i64 node, .int .u64 v1, .int .i64 v2, .int .i64 0, .string ⟨#[]⟩, .string ⟨#[]⟩, .bool false, .int .i64 0]] u6 fun e w' => e = .returned (.bool false) ∧ Below u6.heap.size u6 w') := by
    have h := hasCode_any ((⟨kind, frm, dst, num, node, v1, v2, 0, ⟨#[]⟩, ⟨#[]⟩, false, 0⟩ : MsgQ)) u6
    simp only [hc] at h
    exact h
  go_wp2_with fail
  refine HX.out.mono ?_
  rintro e u7 ⟨rfl, y⟩
  have HR7 : Hid (Rdr u7 g b l2 e2) := HR6.out.below y
  have HB7 : Hid (Blk u7 p #[.int .i64 kind, .int .i64 frm, .int .i64 dst, .int .u64 num, .int .i64 node, .int .u64 v1, .int .i64 v2, .int .i64 0, .string ⟨#[]⟩, .string ⟨#[]⟩, .bool false, .int .i64 0] 27) := HB6.out.of (y.block _ HB6.out.lt)
  have HT7 : Hid (Two g p w u7) := HT6.out.below y
  clear y HX HR6 HB6 HT6
  clear z0 z1 z2 z3 z4 z5 z6 z7 z8 z9 z10 z11 f4 f5 f6 f7 f8 f9 f10 f11
  have z0 : u7.cell? ⟨p, 0, none⟩ = some (.int .i64 kind) := HB7.out.cell 0
  have z1 : u7.cell? ⟨p, 1, none⟩ = some (.int .i64 frm) := HB7.out.cell 1
  have z2 : u7.cell? ⟨p, 2, none⟩ = some (.int .i64 dst) := HB7.out.cell 2
  have z3 : u7.cell? ⟨p, 3, none⟩ = some (.int .u64 num) := HB7.out.cell 3
  have z4 : u7.cell? ⟨p, 4, none⟩ = some (.int .i64 node) := HB7.out.cell 4
  have z5 : u7.cell? ⟨p, 5, none⟩ = some (.int .u64 v1) := HB7.out.cell 5
  have z6 : u7.cell? ⟨p, 6, none⟩ = some (.int .i64 v2) := HB7.out.cell 6
  have z7 : u7.cell? ⟨p, 7, none⟩ = some (.int .i64 0) := HB7.out.cell 7
  have z8 : u7.cell? ⟨p, 8, none⟩ = some (.string ⟨#[]⟩) := HB7.out.cell 8
  have z9 : u7.cell? ⟨p, 9, none⟩ = some (.string ⟨#[]⟩) := HB7.out.cell 9
  have z10 : u7.cell? ⟨p, 10, none⟩ = some (.bool false) := HB7.out.cell 10
  have z11 : u7.cell? ⟨p, 11, none⟩ = some (.int .i64 0) := HB7.out.cell 11
  have f4 : u7.frozen? ⟨p, 4, none⟩ = false := HB7.out.frozen 4
  have f5 : u7.frozen? ⟨p, 5, none⟩ = false := HB7.out.frozen 5
  have f6 : u7.frozen? ⟨p, 6, none⟩ = false := HB7.out.frozen 6
  have f7 : u7.frozen? ⟨p, 7, none⟩ = false := HB7.out.frozen 7
  have f8 : u7.frozen? ⟨p, 8, none⟩ = false := HB7.out.frozen 8
  have f9 : u7.frozen? ⟨p, 9, none⟩ = false := HB7.out.frozen 9
  have f10 : u7.frozen? ⟨p, 10, none⟩ = false := HB7.out.frozen 10
  have f11 : u7.frozen? ⟨p, 11, none⟩ = false := HB7.out.frozen 11
  go_wp2
  have HEQ : Hid (rbody kind frm dst (num, node) l err = (⟨kind, frm, dst, num, node, v1, v2, 0, ⟨#[]⟩, ⟨#[]⟩, false, 0⟩, l2, e2)) := by
    show _ = _
    have P3 : (kind = 3) = False := eq_false (by have := HK.out; omega)
    have P4 : (kind = 4) = False := eq_false (by have := HK.out; omega)
    simp only [rbody, rb, rlife, rn, rdo, rcode, rdid, rp, hl, hn, hc, P3, P4, if_true, if_false, Bool.false_eq_true, HQ1.out, HQ2.out] <;> rfl
  go_end0
  rw [HEQ.out]
  exact ⟨rfl, HB7.out, HR7.out, HT7.out⟩
set_option maxRecDepth 100000 in
set_option maxHeartbeats 8000000 in
theorem read6_any (p g b : Nat) (l : List UInt8) (err : Nat) (kind frm dst num node : Int) (w : World) (h : Rdr w g b l err) (hb : Blk w p #[.int .i64 kind, .int .i64 frm, .int .i64 dst, .int .u64 num, .int .i64 node, .int .u64 0, .int .i64 0, .int .i64 0, .string ⟨#[]⟩, .string ⟨#[]⟩, .bool false, .int .i64 0] 27) (hpg : p ≠ g) (hpb : p ≠ b) (hk : kind = 6) : Calls Try.prog 32 #[.pointer (some ⟨p, 0, none⟩), .pointer (some ⟨g, 0, none⟩)] w (RdM (rbody kind frm dst (num, node) l err) p g b w) := by
  have hl : hasLifeB kind = false := decide_eq_false (by omega)
  have hn : hasNB kind = false := decide_eq_false (by omega)
  have hc : hasCodeB kind = true := decide_eq_true (by omega)
  have e3 : (kind == 3) = false := by simp [hk]
  have e4 : (kind == 4) = false := by simp [hk]
  have HK : Hid (kind = 6) := hk
  have HR0 : Hid (Rdr w g b l err) := h
  have HB0 : Hid (Blk w p #[.int .i64 kind, .int .i64 frm, .int .i64 dst, .int .u64 num, .int .i64 node, .int .u64 0, .int .i64 0, .int .i64 0, .string ⟨#[]⟩, .string ⟨#[]⟩, .bool false, .int .i64 0] 27) := hb
  have HT0 : Hid (Two g p w w) := Two.refl _ _ _
  have HD : Hid (p ≠ g ∧ p ≠ b ∧ g ≠ p ∧ b ≠ p) := ⟨hpg, hpb, hpg.symm, hpb.symm⟩
  clear h hb hpg hpb hk
  go_enter Try.func32, Try.ntmps32
  have z0 : w.cell? ⟨p, 0, none⟩ = some (.int .i64 kind) := HB0.out.cell 0
  have z1 : w.cell? ⟨p, 1, none⟩ = some (.int .i64 frm) := HB0.out.cell 1
  have z2 : w.cell? ⟨p, 2, none⟩ = some (.int .i64 dst) := HB0.out.cell 2
  have z3 : w.cell? ⟨p, 3, none⟩ = some (.int .u64 num) := HB0.out.cell 3
  have z4 : w.cell? ⟨p, 4, none⟩ = some (.int .i64 node) := HB0.out.cell 4
  have z5 : w.cell? ⟨p, 5, none⟩ = some (.int .u64 0) := HB0.out.cell 5
  have z6 : w.cell? ⟨p, 6, none⟩ = some (.int .i64 0) := HB0.out.cell 6
  have z7 : w.cell? ⟨p, 7, none⟩ = some (.int .i64 0) := HB0.out.cell 7
  have z8 : w.cell? ⟨p, 8, none⟩ = some (.string ⟨#[]⟩) := HB0.out.cell 8
  have z9 : w.cell? ⟨p, 9, none⟩ = some (.string ⟨#[]⟩) := HB0.out.cell 9
  have z10 : w.cell? ⟨p, 10, none⟩ = some (.bool false) := HB0.out.cell 10
  have z11 : w.cell? ⟨p, 11, none⟩ = some (.int .i64 0) := HB0.out.cell 11
  have f4 : w.frozen? ⟨p, 4, none⟩ = false := HB0.out.frozen 4
  have f5 : w.frozen? ⟨p, 5, none⟩ = false := HB0.out.frozen 5
  have f6 : w.frozen? ⟨p, 6, none⟩ = false := HB0.out.frozen 6
  have f7 : w.frozen? ⟨p, 7, none⟩ = false := HB0.out.frozen 7
  have f8 : w.frozen? ⟨p, 8, none⟩ = false := HB0.out.frozen 8
  have f9 : w.frozen? ⟨p, 9, none⟩ = false := HB0.out.frozen 9
  have f10 : w.frozen? ⟨p, 10, none⟩ = false := HB0.out.frozen 10
  have f11 : w.frozen? ⟨p, 11, none⟩ = false := HB0.out.frozen 11
  have HX : Hid (Calls Try.prog 15 #[.agg #[.int .i64 kind, .int .i64 frm, .int .i64 dst, .int .u64 num, .int .i64 node, .int .u64 0, .int .i64 0, .int .i64 0, .string ⟨#[]⟩, .string ⟨#[]⟩, .bool false, .int .i64 0]] w fun e w' => e = .returned (.bool false) ∧ Below w.heap.size w w') := by
    have h := hasLife_any ((⟨kind, frm, dst, num, node, 0, 0, 0, ⟨#[]⟩, ⟨#[]⟩, false, 0⟩ : MsgQ)) w
    simp only [hl] at h
    exact h
  go_wp2_with fail
  refine HX.out.mono ?_
  rintro e u1 ⟨rfl, y⟩
  have HR1 : Hid (Rdr u1 g b l err) := HR0.out.below y
  have HB1 : Hid (Blk u1 p #[.int .i64 kind, .int .i64 frm, .int .i64 dst, .int .u64 num, .int .i64 node, .int .u64 0, .int .i64 0, .int .i64 0, .string ⟨#[]⟩, .string ⟨#[]⟩, .bool false, .int .i64 0] 27) := HB0.out.of (y.block _ HB0.out.lt)
  have HT1 : Hid (Two g p w u1) := HT0.out.below y
  clear y HX HR0 HB0 HT0
  clear z0 z1 z2 z3 z4 z5 z6 z7 z8 z9 z10 z11 f4 f5 f6 f7 f8 f9 f10 f11
  have z0 : u1.cell? ⟨p, 0, none⟩ = some (.int .i64 kind) := HB1.out.cell 0
  have z1 : u1.cell? ⟨p, 1, none⟩ = some (.int .i64 frm) := HB1.out.cell 1
  have z2 : u1.cell? ⟨p, 2, none⟩ = some (.int .i64 dst) := HB1.out.cell 2
  have z3 : u1.cell? ⟨p, 3, none⟩ = some (.int .u64 num) := HB1.out.cell 3
  have z4 : u1.cell? ⟨p, 4, none⟩ = some (.int .i64 node) := HB1.out.cell 4
  have z5 : u1.cell? ⟨p, 5, none⟩ = some (.int .u64 0) := HB1.out.cell 5
  have z6 : u1.cell? ⟨p, 6, none⟩ = some (.int .i64 0) := HB1.out.cell 6
  have z7 : u1.cell? ⟨p, 7, none⟩ = some (.int .i64 0) := HB1.out.cell 7
  have z8 : u1.cell? ⟨p, 8, none⟩ = some (.string ⟨#[]⟩) := HB1.out.cell 8
  have z9 : u1.cell? ⟨p, 9, none⟩ = some (.string ⟨#[]⟩) := HB1.out.cell 9
  have z10 : u1.cell? ⟨p, 10, none⟩ = some (.bool false) := HB1.out.cell 10
  have z11 : u1.cell? ⟨p, 11, none⟩ = some (.int .i64 0) := HB1.out.cell 11
  have f4 : u1.frozen? ⟨p, 4, none⟩ = false := HB1.out.frozen 4
  have f5 : u1.frozen? ⟨p, 5, none⟩ = false := HB1.out.frozen 5
  have f6 : u1.frozen? ⟨p, 6, none⟩ = false := HB1.out.frozen 6
  have f7 : u1.frozen? ⟨p, 7, none⟩ = false := HB1.out.frozen 7
  have f8 : u1.frozen? ⟨p, 8, none⟩ = false := HB1.out.frozen 8
  have f9 : u1.frozen? ⟨p, 9, none⟩ = false := HB1.out.frozen 9
  have f10 : u1.frozen? ⟨p, 10, none⟩ = false := HB1.out.frozen 10
  have f11 : u1.frozen? ⟨p, 11, none⟩ = false := HB1.out.frozen 11
  have HX : Hid (Calls Try.prog 17 #[.agg #[.int .i64 kind, .int .i64 frm, .int .i64 dst, .int .u64 num, .int .i64 node, .int .u64 0, .int .i64 0, .int .i64 0, .string ⟨#[]⟩, .string ⟨#[]⟩, .bool false, .int .i64 0]] u1 fun e w' => e = .returned (.bool false) ∧ Below u1.heap.size u1 w') := by
    have h := hasN_any ((⟨kind, frm, dst, num, node, 0, 0, 0, ⟨#[]⟩, ⟨#[]⟩, false, 0⟩ : MsgQ)) u1
    simp only [hn] at h
    exact h
  go_wp2_with fail
  refine HX.out.mono ?_
  rintro e u2 ⟨rfl, y⟩
  have HR2 : Hid (Rdr u2 g b l err) := HR1.out.below y
  have HB2 : Hid (Blk u2 p #[.int .i64 kind, .int .i64 frm, .int .i64 dst, .int .u64 num, .int .i64 node, .int .u64 0, .int .i64 0, .int .i64 0, .string ⟨#[]⟩, .string ⟨#[]⟩, .bool false, .int .i64 0] 27) := HB1.out.of (y.block _ HB1.out.lt)
  have HT2 : Hid (Two g p w u2) := HT1.out.below y
  clear y HX HR1 HB1 HT1
  clear z0 z1 z2 z3 z4 z5 z6 z7 z8 z9 z10 z11 f4 f5 f6 f7 f8 f9 f10 f11
  have z0 : u2.cell? ⟨p, 0, none⟩ = some (.int .i64 kind) := HB2.out.cell 0
  have z1 : u2.cell? ⟨p, 1, none⟩ = some (.int .i64 frm) := HB2.out.cell 1
  have z2 : u2.cell? ⟨p, 2, none⟩ = some (.int .i64 dst) := HB2.out.cell 2
  have z3 : u2.cell? ⟨p, 3, none⟩ = some (.int .u64 num) := HB2.out.cell 3
  have z4 : u2.cell? ⟨p, 4, none⟩ = some (.int .i64 node) := HB2.out.cell 4
  have z5 : u2.cell? ⟨p, 5, none⟩ = some (.int .u64 0) := HB2.out.cell 5
  have z6 : u2.cell? ⟨p, 6, none⟩ = some (.int .i64 0) := HB2.out.cell 6
  have z7 : u2.cell? ⟨p, 7, none⟩ = some (.int .i64 0) := HB2.out.cell 7
  have z8 : u2.cell? ⟨p, 8, none⟩ = some (.string ⟨#[]⟩) := HB2.out.cell 8
  have z9 : u2.cell? ⟨p, 9, none⟩ = some (.string ⟨#[]⟩) := HB2.out.cell 9
  have z10 : u2.cell? ⟨p, 10, none⟩ = some (.bool false) := HB2.out.cell 10
  have z11 : u2.cell? ⟨p, 11, none⟩ = some (.int .i64 0) := HB2.out.cell 11
  have f4 : u2.frozen? ⟨p, 4, none⟩ = false := HB2.out.frozen 4
  have f5 : u2.frozen? ⟨p, 5, none⟩ = false := HB2.out.frozen 5
  have f6 : u2.frozen? ⟨p, 6, none⟩ = false := HB2.out.frozen 6
  have f7 : u2.frozen? ⟨p, 7, none⟩ = false := HB2.out.frozen 7
  have f8 : u2.frozen? ⟨p, 8, none⟩ = false := HB2.out.frozen 8
  have f9 : u2.frozen? ⟨p, 9, none⟩ = false := HB2.out.frozen 9
  have f10 : u2.frozen? ⟨p, 10, none⟩ = false := HB2.out.frozen 10
  have f11 : u2.frozen? ⟨p, 11, none⟩ = false := HB2.out.frozen 11
  have HX : Hid (Calls Try.prog 19 #[.agg #[.int .i64 kind, .int .i64 frm, .int .i64 dst, .int .u64 num, .int .i64 node, .int .u64 0, .int .i64 0, .int .i64 0, .string ⟨#[]⟩, .string ⟨#[]⟩, .bool false, .int .i64 0]] u2 fun e w' => e = .returned (.bool true) ∧ Below u2.heap.size u2 w') := by
    have h := hasCode_any ((⟨kind, frm, dst, num, node, 0, 0, 0, ⟨#[]⟩, ⟨#[]⟩, false, 0⟩ : MsgQ)) u2
    simp only [hc] at h
    exact h
  go_wp2_with fail
  refine HX.out.mono ?_
  rintro e u3 ⟨rfl, y⟩
  have HR3 : Hid (Rdr u3 g b l err) := HR2.out.below y
  have HB3 : Hid (Blk u3 p #[.int .i64 kind, .int .i64 frm, .int .i64 dst, .int .u64 num, .int .i64 node, .int .u64 0, .int .i64 0, .int .i64 0, .string ⟨#[]⟩, .string ⟨#[]⟩, .bool false, .int .i64 0] 27) := HB2.out.of (y.block _ HB2.out.lt)
  have HT3 : Hid (Two g p w u3) := HT2.out.below y
  clear y HX HR2 HB2 HT2
  clear z0 z1 z2 z3 z4 z5 z6 z7 z8 z9 z10 z11 f4 f5 f6 f7 f8 f9 f10 f11
  have z0 : u3.cell? ⟨p, 0, none⟩ = some (.int .i64 kind) := HB3.out.cell 0
  have z1 : u3.cell? ⟨p, 1, none⟩ = some (.int .i64 frm) := HB3.out.cell 1
  have z2 : u3.cell? ⟨p, 2, none⟩ = some (.int .i64 dst) := HB3.out.cell 2
  have z3 : u3.cell? ⟨p, 3, none⟩ = some (.int .u64 num) := HB3.out.cell 3
  have z4 : u3.cell? ⟨p, 4, none⟩ = some (.int .i64 node) := HB3.out.cell 4
  have z5 : u3.cell? ⟨p, 5, none⟩ = some (.int .u64 0) := HB3.out.cell 5
  have z6 : u3.cell? ⟨p, 6, none⟩ = some (.int .i64 0) := HB3.out.cell 6
  have z7 : u3.cell? ⟨p, 7, none⟩ = some (.int .i64 0) := HB3.out.cell 7
  have z8 : u3.cell? ⟨p, 8, none⟩ = some (.string ⟨#[]⟩) := HB3.out.cell 8
  have z9 : u3.cell? ⟨p, 9, none⟩ = some (.string ⟨#[]⟩) := HB3.out.cell 9
  have z10 : u3.cell? ⟨p, 10, none⟩ = some (.bool false) := HB3.out.cell 10
  have z11 : u3.cell? ⟨p, 11, none⟩ = some (.int .i64 0) := HB3.out.cell 11
  have f4 : u3.frozen? ⟨p, 4, none⟩ = false := HB3.out.frozen 4
  have f5 : u3.frozen? ⟨p, 5, none⟩ = false := HB3.out.frozen 5
  have f6 : u3.frozen? ⟨p, 6, none⟩ = false := HB3.out.frozen 6
  have f7 : u3.frozen? ⟨p, 7, none⟩ = false := HB3.out.frozen 7
  have f8 : u3.frozen? ⟨p, 8, none⟩ = false := HB3.out.frozen 8
  have f9 : u3.frozen? ⟨p, 9, none⟩ = false := HB3.out.frozen 9
  have f10 : u3.frozen? ⟨p, 10, none⟩ = false := HB3.out.frozen 10
  have f11 : u3.frozen? ⟨p, 11, none⟩ = false := HB3.out.frozen 11
  obtain ⟨v1, l1, e1, hq, hv1, hx⟩ := rintR 17 g b l err u3 HR3.out
  have HQ1 : Hid (rint 17 l err = (v1, l1, e1)) := hq
  have HX : Hid (Calls _ _ _ _ _) := hx
  have hw1 : IntKind.i64.wrap v1 = v1 := by rw [IntKind.wrap_i64]; omega
  clear hq hx hv1
  go_wp2_with fail
  refine HX.out.mono ?_
  rintro e u4 ⟨rfl, h1, h2⟩
  have HR4 : Hid (Rdr u4 g b l1 e1) := h1
  have HB4 : Hid (Blk u4 p #[.int .i64 kind, .int .i64 frm, .int .i64 dst, .int .u64 num, .int .i64 node, .int .u64 0, .int .i64 0, .int .i64 0, .string ⟨#[]⟩, .string ⟨#[]⟩, .bool false, .int .i64 0] 27) := HB3.out.gr h2 HD.out.1
  have HT4 : Hid (Two g p w u4) := HT3.out.grown h2
  clear h1 h2 HX HR3 HB3 HT3
  clear z0 z1 z2 z3 z4 z5 z6 z7 z8 z9 z10 z11 f4 f5 f6 f7 f8 f9 f10 f11
  have z0 : u4.cell? ⟨p, 0, none⟩ = some (.int .i64 kind) := HB4.out.cell 0
  have z1 : u4.cell? ⟨p, 1, none⟩ = some (.int .i64 frm) := HB4.out.cell 1
  have z2 : u4.cell? ⟨p, 2, none⟩ = some (.int .i64 dst) := HB4.out.cell 2
  have z3 : u4.cell? ⟨p, 3, none⟩ = some (.int .u64 num) := HB4.out.cell 3
  have z4 : u4.cell? ⟨p, 4, none⟩ = some (.int .i64 node) := HB4.out.cell 4
  have z5 : u4.cell? ⟨p, 5, none⟩ = some (.int .u64 0) := HB4.out.cell 5
  have z6 : u4.cell? ⟨p, 6, none⟩ = some (.int .i64 0) := HB4.out.cell 6
  have z7 : u4.cell? ⟨p, 7, none⟩ = some (.int .i64 0) := HB4.out.cell 7
  have z8 : u4.cell? ⟨p, 8, none⟩ = some (.string ⟨#[]⟩) := HB4.out.cell 8
  have z9 : u4.cell? ⟨p, 9, none⟩ = some (.string ⟨#[]⟩) := HB4.out.cell 9
  have z10 : u4.cell? ⟨p, 10, none⟩ = some (.bool false) := HB4.out.cell 10
  have z11 : u4.cell? ⟨p, 11, none⟩ = some (.int .i64 0) := HB4.out.cell 11
  have f4 : u4.frozen? ⟨p, 4, none⟩ = false := HB4.out.frozen 4
  have f5 : u4.frozen? ⟨p, 5, none⟩ = false := HB4.out.frozen 5
  have f6 : u4.frozen? ⟨p, 6, none⟩ = false := HB4.out.frozen 6
  have f7 : u4.frozen? ⟨p, 7, none⟩ = false := HB4.out.frozen 7
  have f8 : u4.frozen? ⟨p, 8, none⟩ = false := HB4.out.frozen 8
  have f9 : u4.frozen? ⟨p, 9, none⟩ = false := HB4.out.frozen 9
  have f10 : u4.frozen? ⟨p, 10, none⟩ = false := HB4.out.frozen 10
  have f11 : u4.frozen? ⟨p, 11, none⟩ = false := HB4.out.frozen 11
  have HB5 : Hid (Blk (u4.setCell ⟨p, 11, none⟩ (.int .i64 v1)) p #[.int .i64 kind, .int .i64 frm, .int .i64 dst, .int .u64 num, .int .i64 node, .int .u64 0, .int .i64 0, .int .i64 0, .string ⟨#[]⟩, .string ⟨#[]⟩, .bool false, .int .i64 v1] 27) := by have h := (HB4.out.set 11 (.int .i64 v1)); simp only [List.setIfInBounds_toArray, List.set_cons_succ, List.set_cons_zero] at h; exact h
  have HR5 : Hid (Rdr (u4.setCell ⟨p, 11, none⟩ (.int .i64 v1)) g b l1 e1) := (HR4.out.set HD.out.2.2.1 HD.out.2.2.2 11 (.int .i64 v1))
  have HT5 : Hid (Two g p w (u4.setCell ⟨p, 11, none⟩ (.int .i64 v1))) := (HT4.out.set 11 (.int .i64 v1))
  go_upto_region 8 with fail
  generalize (u4.setCell ⟨p, 11, none⟩ (.int .i64 v1)) = u5 at *
  clear HB4 HR4 HT4
  clear z0 z1 z2 z3 z4 z5 z6 z7 z8 z9 z10 z11 f4 f5 f6 f7 f8 f9 f10 f11
  have z0 : u5.cell? ⟨p, 0, none⟩ = some (.int .i64 kind) := HB5.out.cell 0
  have z1 : u5.cell? ⟨p, 1, none⟩ = some (.int .i64 frm) := HB5.out.cell 1
  have z2 : u5.cell? ⟨p, 2, none⟩ = some (.int .i64 dst) := HB5.out.cell 2
  have z3 : u5.cell? ⟨p, 3, none⟩ = some (.int .u64 num) := HB5.out.cell 3
  have z4 : u5.cell? ⟨p, 4, none⟩ = some (.int .i64 node) := HB5.out.cell 4
  have z5 : u5.cell? ⟨p, 5, none⟩ = some (.int .u64 0) := HB5.out.cell 5
  have z6 : u5.cell? ⟨p, 6, none⟩ = some (.int .i64 0) := HB5.out.cell 6
  have z7 : u5.cell? ⟨p, 7, none⟩ = some (.int .i64 0) := HB5.out.cell 7
  have z8 : u5.cell? ⟨p, 8, none⟩ = some (.string ⟨#[]⟩) := HB5.out.cell 8
  have z9 : u5.cell? ⟨p, 9, none⟩ = some (.string ⟨#[]⟩) := HB5.out.cell 9
  have z10 : u5.cell? ⟨p, 10, none⟩ = some (.bool false) := HB5.out.cell 10
  have z11 : u5.cell? ⟨p, 11, none⟩ = some (.int .i64 v1) := HB5.out.cell 11
  have f4 : u5.frozen? ⟨p, 4, none⟩ = false := HB5.out.frozen 4
  have f5 : u5.frozen? ⟨p, 5, none⟩ = false := HB5.out.frozen 5
  have f6 : u5.frozen? ⟨p, 6, none⟩ = false := HB5.out.frozen 6
  have f7 : u5.frozen? ⟨p, 7, none⟩ = false := HB5.out.frozen 7
  have f8 : u5.frozen? ⟨p, 8, none⟩ = false := HB5.out.frozen 8
  have f9 : u5.frozen? ⟨p, 9, none⟩ = false := HB5.out.frozen 9
  have f10 : u5.frozen? ⟨p, 10, none⟩ = false := HB5.out.frozen 10
  have f11 : u5.frozen? ⟨p, 11, none⟩ = false := HB5.out.frozen 11
  go_wp2
  have HEQ : Hid (rbody kind frm dst (num, node) l err = (⟨kind, frm, dst, num, node, 0, 0, 0, ⟨#[]⟩, ⟨#[]⟩, false, v1⟩, l1, e1)) := by
    show _ = _
    have P3 : (kind = 3) = False := eq_false (by have := HK.out; omega)
    have P4 : (kind = 4) = False := eq_false (by have := HK.out; omega)
    simp only [rbody, rb, rlife, rn, rdo, rcode, rdid, rp, hl, hn, hc, P3, P4, if_true, if_false, Bool.false_eq_true, HQ1.out] <;> rfl
  go_end0
  rw [HEQ.out]
  exact ⟨rfl, HB5.out, HR5.out, HT5.out⟩
set_option maxRecDepth 100000 in
set_option maxHeartbeats 8000000 in
theorem read0_any (p g b : Nat) (l : List UInt8) (err : Nat) (kind frm dst num node : Int) (w : World) (h : Rdr w g b l err) (hb : Blk w p #[.int .i64 kind, .int .i64 frm, .int .i64 dst, .int .u64 num, .int .i64 node, .int .u64 0, .int .i64 0, .int .i64 0, .string ⟨#[]⟩, .string ⟨#[]⟩, .bool false, .int .i64 0] 27) (hpg : p ≠ g) (hpb : p ≠ b) (hk : (kind ≠ 2 ∧ kind ≠ 3 ∧ kind ≠ 4 ∧ kind ≠ 5 ∧ kind ≠ 6)) : Calls Try.prog 32 #[.pointer (some ⟨p, 0, none⟩), .pointer (some ⟨g, 0, none⟩)] w (RdM (rbody kind frm dst (num, node) l err) p g b w) := by
  have hl : hasLifeB kind = false := decide_eq_false (by omega)
  have hn : hasNB kind = false := decide_eq_false (by omega)
  have hc : hasCodeB kind = false := decide_eq_false (by omega)
  have e3 : (kind == 3) = false := by exact beq_eq_false_iff_ne.2 (by omega)
  have e4 : (kind == 4) = false := by exact beq_eq_false_iff_ne.2 (by omega)
  have HK : Hid ((kind ≠ 2 ∧ kind ≠ 3 ∧ kind ≠ 4 ∧ kind ≠ 5 ∧ kind ≠ 6)) := hk
  have HR0 : Hid (Rdr w g b l err) := h
  have HB0 : Hid (Blk w p #[.int .i64 kind, .int .i64 frm, .int .i64 dst, .int .u64 num, .int .i64 node, .int .u64 0, .int .i64 0, .int .i64 0, .string ⟨#[]⟩, .string ⟨#[]⟩, .bool false, .int .i64 0] 27) := hb
  have HT0 : Hid (Two g p w w) := Two.refl _ _ _
  have HD : Hid (p ≠ g ∧ p ≠ b ∧ g ≠ p ∧ b ≠ p) := ⟨hpg, hpb, hpg.symm, hpb.symm⟩
  clear h hb hpg hpb hk
  go_enter Try.func32, Try.ntmps32
  have z0 : w.cell? ⟨p, 0, none⟩ = some (.int .i64 kind) := HB0.out.cell 0
  have z1 : w.cell? ⟨p, 1, none⟩ = some (.int .i64 frm) := HB0.out.cell 1
  have z2 : w.cell? ⟨p, 2, none⟩ = some (.int .i64 dst) := HB0.out.cell 2
  have z3 : w.cell? ⟨p, 3, none⟩ = some (.int .u64 num) := HB0.out.cell 3
  have z4 : w.cell? ⟨p, 4, none⟩ = some (.int .i64 node) := HB0.out.cell 4
  have z5 : w.cell? ⟨p, 5, none⟩ = some (.int .u64 0) := HB0.out.cell 5
  have z6 : w.cell? ⟨p, 6, none⟩ = some (.int .i64 0) := HB0.out.cell 6
  have z7 : w.cell? ⟨p, 7, none⟩ = some (.int .i64 0) := HB0.out.cell 7
  have z8 : w.cell? ⟨p, 8, none⟩ = some (.string ⟨#[]⟩) := HB0.out.cell 8
  have z9 : w.cell? ⟨p, 9, none⟩ = some (.string ⟨#[]⟩) := HB0.out.cell 9
  have z10 : w.cell? ⟨p, 10, none⟩ = some (.bool false) := HB0.out.cell 10
  have z11 : w.cell? ⟨p, 11, none⟩ = some (.int .i64 0) := HB0.out.cell 11
  have f4 : w.frozen? ⟨p, 4, none⟩ = false := HB0.out.frozen 4
  have f5 : w.frozen? ⟨p, 5, none⟩ = false := HB0.out.frozen 5
  have f6 : w.frozen? ⟨p, 6, none⟩ = false := HB0.out.frozen 6
  have f7 : w.frozen? ⟨p, 7, none⟩ = false := HB0.out.frozen 7
  have f8 : w.frozen? ⟨p, 8, none⟩ = false := HB0.out.frozen 8
  have f9 : w.frozen? ⟨p, 9, none⟩ = false := HB0.out.frozen 9
  have f10 : w.frozen? ⟨p, 10, none⟩ = false := HB0.out.frozen 10
  have f11 : w.frozen? ⟨p, 11, none⟩ = false := HB0.out.frozen 11
  have HX : Hid (Calls Try.prog 15 #[.agg #[.int .i64 kind, .int .i64 frm, .int .i64 dst, .int .u64 num, .int .i64 node, .int .u64 0, .int .i64 0, .int .i64 0, .string ⟨#[]⟩, .string ⟨#[]⟩, .bool false, .int .i64 0]] w fun e w' => e = .returned (.bool false) ∧ Below w.heap.size w w') := by
    have h := hasLife_any ((⟨kind, frm, dst, num, node, 0, 0, 0, ⟨#[]⟩, ⟨#[]⟩, false, 0⟩ : MsgQ)) w
    simp only [hl] at h
    exact h
  go_wp2_with fail
  refine HX.out.mono ?_
  rintro e u1 ⟨rfl, y⟩
  have HR1 : Hid (Rdr u1 g b l err) := HR0.out.below y
  have HB1 : Hid (Blk u1 p #[.int .i64 kind, .int .i64 frm, .int .i64 dst, .int .u64 num, .int .i64 node, .int .u64 0, .int .i64 0, .int .i64 0, .string ⟨#[]⟩, .string ⟨#[]⟩, .bool false, .int .i64 0] 27) := HB0.out.of (y.block _ HB0.out.lt)
  have HT1 : Hid (Two g p w u1) := HT0.out.below y
  clear y HX HR0 HB0 HT0
  clear z0 z1 z2 z3 z4 z5 z6 z7 z8 z9 z10 z11 f4 f5 f6 f7 f8 f9 f10 f11
  have z0 : u1.cell? ⟨p, 0, none⟩ = some (.int .i64 kind) := HB1.out.cell 0
  have z1 : u1.cell? ⟨p, 1, none⟩ = some (.int .i64 frm) := HB1.out.cell 1
  have z2 : u1.cell? ⟨p, 2, none⟩ = some (.int .i64 dst) := HB1.out.cell 2
  have z3 : u1.cell? ⟨p, 3, none⟩ = some (.int .u64 num) := HB1.out.cell 3
  have z4 : u1.cell? ⟨p, 4, none⟩ = some (.int .i64 node) := HB1.out.cell 4
  have z5 : u1.cell? ⟨p, 5, none⟩ = some (.int .u64 0) := HB1.out.cell 5
  have z6 : u1.cell? ⟨p, 6, none⟩ = some (.int .i64 0) := HB1.out.cell 6
  have z7 : u1.cell? ⟨p, 7, none⟩ = some (.int .i64 0) := HB1.out.cell 7
  have z8 : u1.cell? ⟨p, 8, none⟩ = some (.string ⟨#[]⟩) := HB1.out.cell 8
  have z9 : u1.cell? ⟨p, 9, none⟩ = some (.string ⟨#[]⟩) := HB1.out.cell 9
  have z10 : u1.cell? ⟨p, 10, none⟩ = some (.bool false) := HB1.out.cell 10
  have z11 : u1.cell? ⟨p, 11, none⟩ = some (.int .i64 0) := HB1.out.cell 11
  have f4 : u1.frozen? ⟨p, 4, none⟩ = false := HB1.out.frozen 4
  have f5 : u1.frozen? ⟨p, 5, none⟩ = false := HB1.out.frozen 5
  have f6 : u1.frozen? ⟨p, 6, none⟩ = false := HB1.out.frozen 6
  have f7 : u1.frozen? ⟨p, 7, none⟩ = false := HB1.out.frozen 7
  have f8 : u1.frozen? ⟨p, 8, none⟩ = false := HB1.out.frozen 8
  have f9 : u1.frozen? ⟨p, 9, none⟩ = false := HB1.out.frozen 9
  have f10 : u1.frozen? ⟨p, 10, none⟩ = false := HB1.out.frozen 10
  have f11 : u1.frozen? ⟨p, 11, none⟩ = false := HB1.out.frozen 11
  have HX : Hid (Calls Try.prog 17 #[.agg #[.int .i64 kind, .int .i64 frm, .int .i64 dst, .int .u64 num, .int .i64 node, .int .u64 0, .int .i64 0, .int .i64 0, .string ⟨#[]⟩, .string ⟨#[]⟩, .bool false, .int .i64 0]] u1 fun e w' => e = .returned (.bool false) ∧ Below u1.heap.size u1 w') := by
    have h := hasN_any ((⟨kind, frm, dst, num, node, 0, 0, 0, ⟨#[]⟩, ⟨#[]⟩, false, 0⟩ : MsgQ)) u1
    simp only [hn] at h
    exact h
  go_wp2_with fail
  refine HX.out.mono ?_
  rintro e u2 ⟨rfl, y⟩
  have HR2 : Hid (Rdr u2 g b l err) := HR1.out.below y
  have HB2 : Hid (Blk u2 p #[.int .i64 kind, .int .i64 frm, .int .i64 dst, .int .u64 num, .int .i64 node, .int .u64 0, .int .i64 0, .int .i64 0, .string ⟨#[]⟩, .string ⟨#[]⟩, .bool false, .int .i64 0] 27) := HB1.out.of (y.block _ HB1.out.lt)
  have HT2 : Hid (Two g p w u2) := HT1.out.below y
  clear y HX HR1 HB1 HT1
  clear z0 z1 z2 z3 z4 z5 z6 z7 z8 z9 z10 z11 f4 f5 f6 f7 f8 f9 f10 f11
  have z0 : u2.cell? ⟨p, 0, none⟩ = some (.int .i64 kind) := HB2.out.cell 0
  have z1 : u2.cell? ⟨p, 1, none⟩ = some (.int .i64 frm) := HB2.out.cell 1
  have z2 : u2.cell? ⟨p, 2, none⟩ = some (.int .i64 dst) := HB2.out.cell 2
  have z3 : u2.cell? ⟨p, 3, none⟩ = some (.int .u64 num) := HB2.out.cell 3
  have z4 : u2.cell? ⟨p, 4, none⟩ = some (.int .i64 node) := HB2.out.cell 4
  have z5 : u2.cell? ⟨p, 5, none⟩ = some (.int .u64 0) := HB2.out.cell 5
  have z6 : u2.cell? ⟨p, 6, none⟩ = some (.int .i64 0) := HB2.out.cell 6
  have z7 : u2.cell? ⟨p, 7, none⟩ = some (.int .i64 0) := HB2.out.cell 7
  have z8 : u2.cell? ⟨p, 8, none⟩ = some (.string ⟨#[]⟩) := HB2.out.cell 8
  have z9 : u2.cell? ⟨p, 9, none⟩ = some (.string ⟨#[]⟩) := HB2.out.cell 9
  have z10 : u2.cell? ⟨p, 10, none⟩ = some (.bool false) := HB2.out.cell 10
  have z11 : u2.cell? ⟨p, 11, none⟩ = some (.int .i64 0) := HB2.out.cell 11
  have f4 : u2.frozen? ⟨p, 4, none⟩ = false := HB2.out.frozen 4
  have f5 : u2.frozen? ⟨p, 5, none⟩ = false := HB2.out.frozen 5
  have f6 : u2.frozen? ⟨p, 6, none⟩ = false := HB2.out.frozen 6
  have f7 : u2.frozen? ⟨p, 7, none⟩ = false := HB2.out.frozen 7
  have f8 : u2.frozen? ⟨p, 8, none⟩ = false := HB2.out.frozen 8
  have f9 : u2.frozen? ⟨p, 9, none⟩ = false := HB2.out.frozen 9
  have f10 : u2.frozen? ⟨p, 10, none⟩ = false := HB2.out.frozen 10
  have f11 : u2.frozen? ⟨p, 11, none⟩ = false := HB2.out.frozen 11
  have HX : Hid (Calls Try.prog 19 #[.agg #[.int .i64 kind, .int .i64 frm, .int .i64 dst, .int .u64 num, .int .i64 node, .int .u64 0, .int .i64 0, .int .i64 0, .string ⟨#[]⟩, .string ⟨#[]⟩, .bool false, .int .i64 0]] u2 fun e w' => e = .returned (.bool false) ∧ Below u2.heap.size u2 w') := by
    have h := hasCode_any ((⟨kind, frm, dst, num, node, 0, 0, 0, ⟨#[]⟩, ⟨#[]⟩, false, 0⟩ : MsgQ)) u2
    simp only [hc] at h
    exact h
  go_wp2_with fail
  refine HX.out.mono ?_
  rintro e u3 ⟨rfl, y⟩
  have HR3 : Hid (Rdr u3 g b l err) := HR2.out.below y
  have HB3 : Hid (Blk u3 p #[.int .i64 kind, .int .i64 frm, .int .i64 dst, .int .u64 num, .int .i64 node, .int .u64 0, .int .i64 0, .int .i64 0, .string ⟨#[]⟩, .string ⟨#[]⟩, .bool false, .int .i64 0] 27) := HB2.out.of (y.block _ HB2.out.lt)
  have HT3 : Hid (Two g p w u3) := HT2.out.below y
  clear y HX HR2 HB2 HT2
  clear z0 z1 z2 z3 z4 z5 z6 z7 z8 z9 z10 z11 f4 f5 f6 f7 f8 f9 f10 f11
  have z0 : u3.cell? ⟨p, 0, none⟩ = some (.int .i64 kind) := HB3.out.cell 0
  have z1 : u3.cell? ⟨p, 1, none⟩ = some (.int .i64 frm) := HB3.out.cell 1
  have z2 : u3.cell? ⟨p, 2, none⟩ = some (.int .i64 dst) := HB3.out.cell 2
  have z3 : u3.cell? ⟨p, 3, none⟩ = some (.int .u64 num) := HB3.out.cell 3
  have z4 : u3.cell? ⟨p, 4, none⟩ = some (.int .i64 node) := HB3.out.cell 4
  have z5 : u3.cell? ⟨p, 5, none⟩ = some (.int .u64 0) := HB3.out.cell 5
  have z6 : u3.cell? ⟨p, 6, none⟩ = some (.int .i64 0) := HB3.out.cell 6
  have z7 : u3.cell? ⟨p, 7, none⟩ = some (.int .i64 0) := HB3.out.cell 7
  have z8 : u3.cell? ⟨p, 8, none⟩ = some (.string ⟨#[]⟩) := HB3.out.cell 8
  have z9 : u3.cell? ⟨p, 9, none⟩ = some (.string ⟨#[]⟩) := HB3.out.cell 9
  have z10 : u3.cell? ⟨p, 10, none⟩ = some (.bool false) := HB3.out.cell 10
  have z11 : u3.cell? ⟨p, 11, none⟩ = some (.int .i64 0) := HB3.out.cell 11
  have f4 : u3.frozen? ⟨p, 4, none⟩ = false := HB3.out.frozen 4
  have f5 : u3.frozen? ⟨p, 5, none⟩ = false := HB3.out.frozen 5
  have f6 : u3.frozen? ⟨p, 6, none⟩ = false := HB3.out.frozen 6
  have f7 : u3.frozen? ⟨p, 7, none⟩ = false := HB3.out.frozen 7
  have f8 : u3.frozen? ⟨p, 8, none⟩ = false := HB3.out.frozen 8
  have f9 : u3.frozen? ⟨p, 9, none⟩ = false := HB3.out.frozen 9
  have f10 : u3.frozen? ⟨p, 10, none⟩ = false := HB3.out.frozen 10
  have f11 : u3.frozen? ⟨p, 11, none⟩ = false := HB3.out.frozen 11
  go_wp2
  have HEQ : Hid (rbody kind frm dst (num, node) l err = (⟨kind, frm, dst, num, node, 0, 0, 0, ⟨#[]⟩, ⟨#[]⟩, false, 0⟩, l, err)) := by
    show _ = _
    have P3 : (kind = 3) = False := eq_false (by have := HK.out; omega)
    have P4 : (kind = 4) = False := eq_false (by have := HK.out; omega)
    simp only [rbody, rb, rlife, rn, rdo, rcode, rdid, rp, hl, hn, hc, P3, P4, if_true, if_false, Bool.false_eq_true] <;> rfl
  go_end0
  rw [HEQ.out]
  exact ⟨rfl, HB3.out, HR3.out, HT3.out⟩
theorem readM_any (p g b : Nat) (l : List UInt8) (err : Nat) (kind frm dst num node : Int) (w : World) (h : Rdr w g b l err) (hb : Blk w p #[.int .i64 kind, .int .i64 frm, .int .i64 dst, .int .u64 num, .int .i64 node, .int .u64 0, .int .i64 0, .int .i64 0, .string ⟨#[]⟩, .string ⟨#[]⟩, .bool false, .int .i64 0] 27) (hpg : p ≠ g) (hpb : p ≠ b) : Calls Try.prog 32 #[.pointer (some ⟨p, 0, none⟩), .pointer (some ⟨g, 0, none⟩)] w (RdM (rbody kind frm dst (num, node) l err) p g b w) := by
  by_cases k2 : kind = 2
  · exact read2_any p g b l err kind frm dst num node w h hb hpg hpb k2
  by_cases k3 : kind = 3
  · exact read3_any p g b l err kind frm dst num node w h hb hpg hpb k3
  by_cases k4 : kind = 4
  · exact read4_any p g b l err kind frm dst num node w h hb hpg hpb k4
  by_cases k5 : kind = 5
  · exact read5_any p g b l err kind frm dst num node w h hb hpg hpb k5
  by_cases k6 : kind = 6
  · exact read6_any p g b l err kind frm dst num node w h hb hpg hpb k6
  exact read0_any p g b l err kind frm dst num node w h hb hpg hpb ⟨k2, k3, k4, k5, k6⟩
end Go.Proofs.Ytefmeeffkjendaa

/- node's Join. Own lemmas, no statement. -/
import Derived.Test.YtmjekecalghhdaaNdQ
set_option linter.unusedSimpArgs false
set_option linter.unusedVariables false
namespace Go.Proofs.Ytmjekecalghhdaa
open Go.ChangeShapes Go.WideShapes Go.ChangeAt Go.RowKit

/-- 'append(l, x...)' where the walk stands. -/
theorem wpList_appS {ops : Array Oper} {rest : List Oper} {o : Oper} {a : Act} {Q : Exit → Act → World → Prop} (W : World) (hgd : o.guard = none) (s x : Operand)
    (ho : o.op = .call { callee := .builtin .append, args := #[s, x], argTypes := #[22, 22] })
    (B : Nat) (v vx : Value) (ks xs : List ByteArray) (hown : OwnV W B 9 v (sv ks)) (hx : Rd W vx (sv xs)) (hs : a.eval s = v) (hxv : a.eval x = vx)
    (hl : ks.length + xs.length < 1000000000000) (hB : B ≤ W.heap.size)
    (hK : ∀ a' n' c' W', OwnV W' B 9 (.slice a' n' c') (sv (ks ++ xs)) → W.grownBy W' v.ownBlock → ((Value.slice a' n' c').ownBlock = v.ownBlock ∨ (Value.slice a' n' c').ownBlock = some W.heap.size) → wpList Try.prog ops Q rest (a.put o.dst (.slice a' n' c')) W') :
    wpList Try.prog ops Q (o :: rest) a W := by
  obtain ⟨v', W', hr, h1, h2, h3⟩ := run_appS W o.type B v vx ks xs hown hx hl hB
  obtain ⟨n', a', c', e⟩ := h1.rd.any
  subst e
  refine wpList_plain hgd fun K hK' => ?_
  unfold Oper.wp execOp
  simp only [ho, resolve, invoke, builtin, Sem.run_bind, Sem.run_pure, Result.andThen_ok, List.map_toArray, List.map_cons, List.map_nil, hs, hxv, hr]
  exact hK' _ _ (hK a' n' c' W' h1 h2 h3)
/-- 'append(l, x...)' where the walk stands. -/
theorem wpList_appI {ops : Array Oper} {rest : List Oper} {o : Oper} {a : Act} {Q : Exit → Act → World → Prop} (W : World) (hgd : o.guard = none) (s x : Operand)
    (ho : o.op = .call { callee := .builtin .append, args := #[s, x], argTypes := #[23, 23] })
    (B : Nat) (v vx : Value) (ks xs : List Int) (hown : OwnV W B 3 v (iv ks)) (hx : Rd W vx (iv xs)) (hs : a.eval s = v) (hxv : a.eval x = vx)
    (hl : ks.length + xs.length < 1000000000000) (hB : B ≤ W.heap.size)
    (hK : ∀ a' n' c' W', OwnV W' B 3 (.slice a' n' c') (iv (ks ++ xs)) → W.grownBy W' v.ownBlock → ((Value.slice a' n' c').ownBlock = v.ownBlock ∨ (Value.slice a' n' c').ownBlock = some W.heap.size) → wpList Try.prog ops Q rest (a.put o.dst (.slice a' n' c')) W') :
    wpList Try.prog ops Q (o :: rest) a W := by
  obtain ⟨v', W', hr, h1, h2, h3⟩ := run_appI W o.type B v vx ks xs hown hx hl hB
  obtain ⟨n', a', c', e⟩ := h1.rd.any
  subst e
  refine wpList_plain hgd fun K hK' => ?_
  unfold Oper.wp execOp
  simp only [ho, resolve, invoke, builtin, Sem.run_bind, Sem.run_pure, Result.andThen_ok, List.map_toArray, List.map_cons, List.map_nil, hs, hxv, hr]
  exact hK' _ _ (hK a' n' c' W' h1 h2 h3)

def joinL (a b : Pg) : Pg := { a with keys := a.keys ++ b.keys, vals := a.vals ++ b.vals, kids := a.kids ++ b.kids }
def joinI (a : Pg) (k : ByteArray) (b : Pg) : Pg := { a with keys := a.keys ++ k :: b.keys, vals := a.vals ++ b.vals, kids := a.kids ++ b.kids }
section
variable {W W' : World} {B b : Nat} {p : Pg} {kv vv dv v' : Value}
/-- Nothing below has turned, where an append lays nothing first. -/
theorem join_below {a : World} {v : Value} {i : Nat} (h : Below B a W) (hB : B ≤ W.heap.size) (hv : ∀ g, v.ownBlock = some g → B ≤ g) (hb : B ≤ b) (hg : W.grownBy W' v.ownBlock) (u : Value) : Below B a (W'.setCell ⟨b, i, none⟩ u) := (h.grown hg hB hv).setCell hb _
theorem join_kept {v : Value} {i : Nat} (hg : W.grownBy W' v.ownBlock) (g : Nat) (h1 : g < W.heap.size) (h2 : v.ownBlock ≠ some g) (h3 : g ≠ b) (u : Value) : (W'.setCell ⟨b, i, none⟩ u).heap[g]? = W.heap[g]? := by
  rw [Below.heap_setCell _ _ _ _ (by exact h3), hg.block g h1 (fun e => h2 e.symm)]
end

set_option maxRecDepth 100000 in
set_option maxHeartbeats 3000000 in
theorem joinL_any (p q : Pg) (k : ByteArray) (kv vv dv kv' vv' dv' : Value) (w : World) (hp : PgAt w p kv vv dv) (hq : PgAt w q kv' vv' dv') (hkind : p.kind = 1) (hl : p.keys.length ≤ 1000 ∧ p.vals.length ≤ 1000 ∧ p.kids.length ≤ 1000) (hm : q.keys.length ≤ 1000 ∧ q.vals.length ≤ 1000 ∧ q.kids.length ≤ 1000) :
    Calls Try.prog 34 #[pgv p kv vv dv, .string k, pgv q kv' vv' dv'] w fun e w' => ∃ k3 v3 d3, e = .returned (pgv (joinL p q) k3 v3 d3) ∧ PgAt w' (joinL p q) k3 v3 d3 ∧ Below w.heap.size w w' := by
  obtain ⟨kn1, ka1, kc1, e1⟩ := hp.keys.any
  obtain ⟨vn1, va1, vc1, e2⟩ := hp.vals.any
  obtain ⟨dn1, da1, dc1, e3⟩ := hp.kids.any
  obtain ⟨kn2, ka2, kc2, e4⟩ := hq.keys.any
  obtain ⟨vn2, va2, vc2, e5⟩ := hq.vals.any
  obtain ⟨dn2, da2, dc2, e6⟩ := hq.kids.any
  subst e1 e2 e3 e4 e5 e6
  have HP : Hid (PgAt w p (.slice ka1 kn1 kc1) (.slice va1 vn1 vc1) (.slice da1 dn1 dc1)) := hp
  have HQ : Hid (PgAt w q (.slice ka2 kn2 kc2) (.slice va2 vn2 vc2) (.slice da2 dn2 dc2)) := hq
  have HB0 : Hid (PBox (((w.alloc (.cells #[.int .i64 p.kind, .slice ka1 kn1 kc1, .slice va1 vn1 vc1, .slice da1 dn1 dc1, .int .i64 p.root, .int .i64 p.next, .int .i64 p.size, .int .i64 p.idle] 25)).alloc (.cells #[.int .i64 q.kind, .slice ka2 kn2 kc2, .slice va2 vn2 vc2, .slice da2 dn2 dc2, .int .i64 q.root, .int .i64 q.next, .int .i64 q.size, .int .i64 q.idle] 25)).alloc (.cells #[.int .i64 0, .slice none 0 0, .slice none 0 0, .slice none 0 0, .int .i64 0, .int .i64 0, .int .i64 0, .int .i64 0] 25)) w.heap.size p (.slice ka1 kn1 kc1) (.slice va1 vn1 vc1) (.slice da1 dn1 dc1)) := ((Blk.new _ _ _).alloc _).alloc _
  have QX : Hid (PBox (((w.alloc (.cells #[.int .i64 p.kind, .slice ka1 kn1 kc1, .slice va1 vn1 vc1, .slice da1 dn1 dc1, .int .i64 p.root, .int .i64 p.next, .int .i64 p.size, .int .i64 p.idle] 25)).alloc (.cells #[.int .i64 q.kind, .slice ka2 kn2 kc2, .slice va2 vn2 vc2, .slice da2 dn2 dc2, .int .i64 q.root, .int .i64 q.next, .int .i64 q.size, .int .i64 q.idle] 25)).alloc (.cells #[.int .i64 0, .slice none 0 0, .slice none 0 0, .slice none 0 0, .int .i64 0, .int .i64 0, .int .i64 0, .int .i64 0] 25)) (w.heap.size + 1) q (.slice ka2 kn2 kc2) (.slice va2 vn2 vc2) (.slice da2 dn2 dc2)) := (blk_two _ _ _ _ _).alloc _
  have RX : Hid (Blk (((w.alloc (.cells #[.int .i64 p.kind, .slice ka1 kn1 kc1, .slice va1 vn1 vc1, .slice da1 dn1 dc1, .int .i64 p.root, .int .i64 p.next, .int .i64 p.size, .int .i64 p.idle] 25)).alloc (.cells #[.int .i64 q.kind, .slice ka2 kn2 kc2, .slice va2 vn2 vc2, .slice da2 dn2 dc2, .int .i64 q.root, .int .i64 q.next, .int .i64 q.size, .int .i64 q.idle] 25)).alloc (.cells #[.int .i64 0, .slice none 0 0, .slice none 0 0, .slice none 0 0, .int .i64 0, .int .i64 0, .int .i64 0, .int .i64 0] 25)) (w.heap.size + 1 + 1) zeroC 25) := by
    have := Blk.new ((w.alloc (.cells #[.int .i64 p.kind, .slice ka1 kn1 kc1, .slice va1 vn1 vc1, .slice da1 dn1 dc1, .int .i64 p.root, .int .i64 p.next, .int .i64 p.size, .int .i64 p.idle] 25)).alloc (.cells #[.int .i64 q.kind, .slice ka2 kn2 kc2, .slice va2 vn2 vc2, .slice da2 dn2 dc2, .int .i64 q.root, .int .i64 q.next, .int .i64 q.size, .int .i64 q.idle] 25)) zeroC 25
    rw [show ((w.alloc (.cells #[.int .i64 p.kind, .slice ka1 kn1 kc1, .slice va1 vn1 vc1, .slice da1 dn1 dc1, .int .i64 p.root, .int .i64 p.next, .int .i64 p.size, .int .i64 p.idle] 25)).alloc (.cells #[.int .i64 q.kind, .slice ka2 kn2 kc2, .slice va2 vn2 vc2, .slice da2 dn2 dc2, .int .i64 q.root, .int .i64 q.next, .int .i64 q.size, .int .i64 q.idle] 25)).heap.size = w.heap.size + 1 + 1 by simp] at this
    exact this
  have YX : Hid (Below w.heap.size w (((w.alloc (.cells #[.int .i64 p.kind, .slice ka1 kn1 kc1, .slice va1 vn1 vc1, .slice da1 dn1 dc1, .int .i64 p.root, .int .i64 p.next, .int .i64 p.size, .int .i64 p.idle] 25)).alloc (.cells #[.int .i64 q.kind, .slice ka2 kn2 kc2, .slice va2 vn2 vc2, .slice da2 dn2 dc2, .int .i64 q.root, .int .i64 q.next, .int .i64 q.size, .int .i64 q.idle] 25)).alloc (.cells #[.int .i64 0, .slice none 0 0, .slice none 0 0, .slice none 0 0, .int .i64 0, .int .i64 0, .int .i64 0, .int .i64 0] 25))) := (((Below.refl _ _).alloc (Nat.le_refl _) _).alloc (by simp) _).alloc (by simp; omega) _
  have SZX : Hid (w.heap.size + 3 ≤ (((w.alloc (.cells #[.int .i64 p.kind, .slice ka1 kn1 kc1, .slice va1 vn1 vc1, .slice da1 dn1 dc1, .int .i64 p.root, .int .i64 p.next, .int .i64 p.size, .int .i64 p.idle] 25)).alloc (.cells #[.int .i64 q.kind, .slice ka2 kn2 kc2, .slice va2 vn2 vc2, .slice da2 dn2 dc2, .int .i64 q.root, .int .i64 q.next, .int .i64 q.size, .int .i64 q.idle] 25)).alloc (.cells #[.int .i64 0, .slice none 0 0, .slice none 0 0, .slice none 0 0, .int .i64 0, .int .i64 0, .int .i64 0, .int .i64 0] 25)).heap.size) := by show _ ≤ _; simp
  have HCL : Hid (∀ W, Below w.heap.size w W → w.heap.size + 3 ≤ W.heap.size → Calls Try.prog 23 #[pgv p (.slice ka1 kn1 kc1) (.slice va1 vn1 vc1) (.slice da1 dn1 dc1)] W fun e w' => ∃ kv' vv' dv', e = .returned (pgv p kv' vv' dv') ∧ PgO w' (w.heap.size + 3) p kv' vv' dv' ∧ Below W.heap.size W w') := fun W hb hs => (pclone_any p _ _ _ W (HP.out.below hb) ⟨by omega, by omega, by omega⟩).mono fun e w' he => by
    obtain ⟨a, b, c, h1, h2, h3⟩ := he
    exact ⟨a, b, c, h1, h2.mono hs, h3⟩
  have LENK : Hid (p.keys.length + q.keys.length < 1000000000000) := by show _ < _; omega
  have LENV : Hid (p.vals.length + q.vals.length < 1000000000000) := by show _ < _; omega
  have LEND : Hid (p.kids.length + q.kids.length < 1000000000000) := by show _ < _; omega
  have LEN1 : Hid (p.keys.length < 1099511627776) := by show _ < _; omega
  have HKD : Hid (p.kind = 1) := hkind
  clear hp hq hl hm hkind
  unfold pgv at *
  go_enter Try.func34, Try.ntmps34
  go_upto_region 1 with fail
  generalize (((w.alloc (.cells #[.int .i64 p.kind, .slice ka1 kn1 kc1, .slice va1 vn1 vc1, .slice da1 dn1 dc1, .int .i64 p.root, .int .i64 p.next, .int .i64 p.size, .int .i64 p.idle] 25)).alloc (.cells #[.int .i64 q.kind, .slice ka2 kn2 kc2, .slice va2 vn2 vc2, .slice da2 dn2 dc2, .int .i64 q.root, .int .i64 q.next, .int .i64 q.size, .int .i64 q.idle] 25)).alloc (.cells #[.int .i64 0, .slice none 0 0, .slice none 0 0, .slice none 0 0, .int .i64 0, .int .i64 0, .int .i64 0, .int .i64 0] 25)) = w0 at *
  obtain ⟨z0, z1, z2, z3, z4, z5, z6, z7⟩ := HB0.out.cells
  go_wp2_with fail
  refine (HCL.out _ YX.out SZX.out).mono ?_
  rintro e w1 ⟨kv, vv, dv, rfl, ho, y⟩
  obtain ⟨kn, ka, kc, e1⟩ := ho.keys.rd.any
  obtain ⟨vn, va, vc, e2⟩ := ho.vals.rd.any
  obtain ⟨dn, da, dc, e3⟩ := ho.kids.rd.any
  subst e1 e2 e3
  have Q1 : Hid (PBox (w1.alloc (.cells #[.int .i64 p.kind, .slice ka kn kc, .slice va vn vc, .slice da dn dc, .int .i64 p.root, .int .i64 p.next, .int .i64 p.size, .int .i64 p.idle] 25)) (w.heap.size + 1) q (.slice ka2 kn2 kc2) (.slice va2 vn2 vc2) (.slice da2 dn2 dc2)) := PBox.below (QX.out.below y) ((Below.refl _ _).alloc (Nat.le_refl _) _)
  have R1 : Hid (Blk (w1.alloc (.cells #[.int .i64 p.kind, .slice ka kn kc, .slice va vn vc, .slice da dn dc, .int .i64 p.root, .int .i64 p.next, .int .i64 p.size, .int .i64 p.idle] 25)) (w.heap.size + 1 + 1) zeroC 25) := (Blk.of RX.out (y.block _ RX.out.lt)).alloc _
  have S1 : Hid (w.heap.size + 3 ≤ (w1.alloc (.cells #[.int .i64 p.kind, .slice ka kn kc, .slice va vn vc, .slice da dn dc, .int .i64 p.root, .int .i64 p.next, .int .i64 p.size, .int .i64 p.idle] 25)).heap.size) := by show _ ≤ _; simp; have := SZX.out; have := y.size; omega
  have Y1 : Hid (Below w.heap.size w (w1.alloc (.cells #[.int .i64 p.kind, .slice ka kn kc, .slice va vn vc, .slice da dn dc, .int .i64 p.root, .int .i64 p.next, .int .i64 p.size, .int .i64 p.idle] 25))) := (ext_trans YX.out y).alloc (ext_trans YX.out y).size _
  have hw1 : w.heap.size + 3 ≤ w1.heap.size := Nat.le_trans SZX.out y.size
  have BX : Hid (Box (w1.alloc (.cells #[.int .i64 p.kind, .slice ka kn kc, .slice va vn vc, .slice da dn dc, .int .i64 p.root, .int .i64 p.next, .int .i64 p.size, .int .i64 p.idle] 25)) (w.heap.size + 3) w1.heap.size p (.slice ka kn kc) (.slice va vn vc) (.slice da dn dc)) := ⟨Blk.new _ _ _, ho.below ((Below.refl _ _).alloc (Nat.le_refl _) _), hw1, fun e => by have := (ho.keys.blk _ e).2; omega, fun e => by have := (ho.vals.blk _ e).2; omega, fun e => by have := (ho.kids.blk _ e).2; omega⟩
  have A1 : Hid (PBox (w1.alloc (.cells #[.int .i64 p.kind, .slice ka kn kc, .slice va vn vc, .slice da dn dc, .int .i64 p.root, .int .i64 p.next, .int .i64 p.size, .int .i64 p.idle] 25)) w.heap.size p (.slice ka1 kn1 kc1) (.slice va1 vn1 vc1) (.slice da1 dn1 dc1)) := PBox.below (HB0.out.below y) ((Below.refl _ _).alloc (Nat.le_refl _) _)
  clear ho y YX QX RX SZX HCL HB0 z0 z1 z2 z3 z4 z5 z6 z7 hw1
  have YX := Y1
  have QX := Q1
  have RX := R1
  have SZX := S1
  clear Y1 Q1 R1 S1
  go_upto_region 2 with fail
  generalize w1.alloc (.cells #[.int .i64 p.kind, .slice ka kn kc, .slice va vn vc, .slice da dn dc, .int .i64 p.root, .int .i64 p.next, .int .i64 p.size, .int .i64 p.idle] 25) = w2 at *
  obtain ⟨b, hbb⟩ : ∃ b, w1.heap.size = b := ⟨_, rfl⟩
  rw [hbb] at BX ⊢
  clear hbb
  have hk0 : w2.cell? ⟨w.heap.size, 0, none⟩ = some (.int .i64 1) := by rw [← HKD.out]; exact A1.out.cells.1
  go_upto_region 4 with fail
  clear hk0 A1
  obtain ⟨z0, z1, z2, z3, z4, z5, z6, z7⟩ := BX.out.box.cells
  obtain ⟨y0, y1, y2, y3, y4, y5, y6, y7⟩ := QX.out.cells
  have hsz : w.heap.size + 3 ≤ w2.heap.size := SZX.out
  go_wp2_with (at_builtin; refine wpList_appS w2 rfl _ _ rfl (w.heap.size + 3) (.slice ka kn kc) (.slice ka2 kn2 kc2) _ q.keys BX.out.own.keys (HQ.out.keys.below (YX.out)) rfl rfl LENK.out hsz ?_)
  intro ad nd cd Xd ho hg hat
  have BXd : Hid (Box (Xd.setCell ⟨b, 1, none⟩ (.slice ad nd cd)) (w.heap.size + 3) b _ (.slice ad nd cd) (.slice va vn vc) (.slice da dn dc)) := BX.out.joinK ho hg hat
  have Yd : Hid (Below w.heap.size w (Xd.setCell ⟨b, 1, none⟩ (.slice ad nd cd))) := join_below YX.out (by omega) (fun g e => Nat.le_trans (by omega) (BX.out.own.keys.blk g e).1) (Nat.le_trans (by omega) BX.out.hb) hg _
  have Qd : Hid (PBox (Xd.setCell ⟨b, 1, none⟩ (.slice ad nd cd)) (w.heap.size + 1) q (.slice ka2 kn2 kc2) (.slice va2 vn2 vc2) (.slice da2 dn2 dc2)) := Blk.of QX.out (join_kept hg _ (Blk.lt QX.out) (fun e => by have := (BX.out.own.keys.blk _ e).1; omega) (by have := BX.out.hb; omega) _)
  have Rd : Hid (Blk (Xd.setCell ⟨b, 1, none⟩ (.slice ad nd cd)) (w.heap.size + 1 + 1) zeroC 25) := Blk.of RX.out (join_kept hg _ (Blk.lt RX.out) (fun e => by have := (BX.out.own.keys.blk _ e).1; omega) (by have := BX.out.hb; omega) _)
  have pre : PBox Xd b _ (.slice ka kn kc) (.slice va vn vc) (.slice da dn dc) := Blk.of BX.out.box (hg.block b (Blk.lt BX.out.box) (fun e => BX.out.nk e.symm))
  have SZd : Hid (w.heap.size + 3 ≤ (Xd.setCell ⟨b, 1, none⟩ (.slice ad nd cd)).heap.size) := Nat.le_trans (Nat.le_trans hsz hg.size) (by simp [World.setCell])
  clear z0 z1 z2 z3 z4 z5 z6 z7 y0 y1 y2 y3 y4 y5 y6 y7 ho hg hat hsz
  obtain ⟨z0, z1, z2, z3, z4, z5, z6, z7⟩ := pre.cells
  have ff := pre.frozen 1
  clear pre BX YX QX RX SZX
  go_upto_region 5 with fail
  generalize Xd.setCell ⟨b, 1, none⟩ (.slice ad nd cd) = w3 at *
  clear z0 z1 z2 z3 z4 z5 z6 z7 ff
  have YX := Yd
  have QX := Qd
  have RX := Rd
  have SZX := SZd
  clear Yd Qd Rd SZd
  obtain ⟨z0, z1, z2, z3, z4, z5, z6, z7⟩ := BXd.out.box.cells
  obtain ⟨y0, y1, y2, y3, y4, y5, y6, y7⟩ := QX.out.cells
  have hsz : w.heap.size + 3 ≤ w3.heap.size := SZX.out
  go_wp2_with (at_builtin; refine wpList_appS w3 rfl _ _ rfl (w.heap.size + 3) (.slice va vn vc) (.slice va2 vn2 vc2) _ q.vals BXd.out.own.vals (HQ.out.vals.below (YX.out)) rfl rfl LENV.out hsz ?_)
  intro ae ne ce Xe ho hg hat
  have BXe : Hid (Box (Xe.setCell ⟨b, 2, none⟩ (.slice ae ne ce)) (w.heap.size + 3) b _ (.slice ad nd cd) (.slice ae ne ce) (.slice da dn dc)) := BXd.out.joinV ho hg hat
  have Ye : Hid (Below w.heap.size w (Xe.setCell ⟨b, 2, none⟩ (.slice ae ne ce))) := join_below YX.out (by omega) (fun g e => Nat.le_trans (by omega) (BXd.out.own.vals.blk g e).1) (Nat.le_trans (by omega) BXd.out.hb) hg _
  have Qe : Hid (PBox (Xe.setCell ⟨b, 2, none⟩ (.slice ae ne ce)) (w.heap.size + 1) q (.slice ka2 kn2 kc2) (.slice va2 vn2 vc2) (.slice da2 dn2 dc2)) := Blk.of QX.out (join_kept hg _ (Blk.lt QX.out) (fun e => by have := (BXd.out.own.vals.blk _ e).1; omega) (by have := BXd.out.hb; omega) _)
  have Re : Hid (Blk (Xe.setCell ⟨b, 2, none⟩ (.slice ae ne ce)) (w.heap.size + 1 + 1) zeroC 25) := Blk.of RX.out (join_kept hg _ (Blk.lt RX.out) (fun e => by have := (BXd.out.own.vals.blk _ e).1; omega) (by have := BXd.out.hb; omega) _)
  have pre : PBox Xe b _ (.slice ad nd cd) (.slice va vn vc) (.slice da dn dc) := Blk.of BXd.out.box (hg.block b (Blk.lt BXd.out.box) (fun e => BXd.out.nv e.symm))
  have SZe : Hid (w.heap.size + 3 ≤ (Xe.setCell ⟨b, 2, none⟩ (.slice ae ne ce)).heap.size) := Nat.le_trans (Nat.le_trans hsz hg.size) (by simp [World.setCell])
  clear z0 z1 z2 z3 z4 z5 z6 z7 y0 y1 y2 y3 y4 y5 y6 y7 ho hg hat hsz
  obtain ⟨z0, z1, z2, z3, z4, z5, z6, z7⟩ := pre.cells
  have ff := pre.frozen 2
  clear pre BXd YX QX RX SZX
  go_upto_region 6 with fail
  generalize Xe.setCell ⟨b, 2, none⟩ (.slice ae ne ce) = w4 at *
  clear z0 z1 z2 z3 z4 z5 z6 z7 ff
  have YX := Ye
  have QX := Qe
  have RX := Re
  have SZX := SZe
  clear Ye Qe Re SZe
  obtain ⟨z0, z1, z2, z3, z4, z5, z6, z7⟩ := BXe.out.box.cells
  obtain ⟨y0, y1, y2, y3, y4, y5, y6, y7⟩ := QX.out.cells
  have hsz : w.heap.size + 3 ≤ w4.heap.size := SZX.out
  go_wp2_with (at_builtin; refine wpList_appI w4 rfl _ _ rfl (w.heap.size + 3) (.slice da dn dc) (.slice da2 dn2 dc2) _ q.kids BXe.out.own.kids (HQ.out.kids.below (YX.out)) rfl rfl LEND.out hsz ?_)
  intro af nf cf Xf ho hg hat
  have BXf : Hid (Box (Xf.setCell ⟨b, 3, none⟩ (.slice af nf cf)) (w.heap.size + 3) b _ (.slice ad nd cd) (.slice ae ne ce) (.slice af nf cf)) := BXe.out.joinD ho hg hat
  have Yf : Hid (Below w.heap.size w (Xf.setCell ⟨b, 3, none⟩ (.slice af nf cf))) := join_below YX.out (by omega) (fun g e => Nat.le_trans (by omega) (BXe.out.own.kids.blk g e).1) (Nat.le_trans (by omega) BXe.out.hb) hg _
  have Qf : Hid (PBox (Xf.setCell ⟨b, 3, none⟩ (.slice af nf cf)) (w.heap.size + 1) q (.slice ka2 kn2 kc2) (.slice va2 vn2 vc2) (.slice da2 dn2 dc2)) := Blk.of QX.out (join_kept hg _ (Blk.lt QX.out) (fun e => by have := (BXe.out.own.kids.blk _ e).1; omega) (by have := BXe.out.hb; omega) _)
  have Rf : Hid (Blk (Xf.setCell ⟨b, 3, none⟩ (.slice af nf cf)) (w.heap.size + 1 + 1) zeroC 25) := Blk.of RX.out (join_kept hg _ (Blk.lt RX.out) (fun e => by have := (BXe.out.own.kids.blk _ e).1; omega) (by have := BXe.out.hb; omega) _)
  have pre : PBox Xf b _ (.slice ad nd cd) (.slice ae ne ce) (.slice da dn dc) := Blk.of BXe.out.box (hg.block b (Blk.lt BXe.out.box) (fun e => BXe.out.nd e.symm))
  have SZf : Hid (w.heap.size + 3 ≤ (Xf.setCell ⟨b, 3, none⟩ (.slice af nf cf)).heap.size) := Nat.le_trans (Nat.le_trans hsz hg.size) (by simp [World.setCell])
  clear z0 z1 z2 z3 z4 z5 z6 z7 y0 y1 y2 y3 y4 y5 y6 y7 ho hg hat hsz
  obtain ⟨z0, z1, z2, z3, z4, z5, z6, z7⟩ := pre.cells
  have ff := pre.frozen 3
  clear pre BXe YX QX RX SZX
  go_upto_region 7 with fail
  generalize Xf.setCell ⟨b, 3, none⟩ (.slice af nf cf) = w9 at *
  clear z0 z1 z2 z3 z4 z5 z6 z7 ff
  have YX := Yf
  have QX := Qf
  have RX := Rf
  have SZX := SZf
  clear Yf Qf Rf SZf
  have HB : Hid (Box w9 (w.heap.size + 3) b (joinL p q) (.slice ad nd cd) (.slice ae ne ce) (.slice af nf cf)) := BXf.out
  obtain ⟨x0, x1, x2, x3, x4, x5, x6, x7⟩ := HB.out.box.cells
  have x0' : w9.cell? ⟨b, 0, none⟩ = some (.int .i64 p.kind) := x0
  have x4' : w9.cell? ⟨b, 4, none⟩ = some (.int .i64 p.root) := x4
  have x5' : w9.cell? ⟨b, 5, none⟩ = some (.int .i64 p.next) := x5
  have x6' : w9.cell? ⟨b, 6, none⟩ = some (.int .i64 p.size) := x6
  have x7' : w9.cell? ⟨b, 7, none⟩ = some (.int .i64 p.idle) := x7
  clear x0 x4 x5 x6 x7
  have c0 := RX.out.cell 0
  have g0 := RX.out.frozen 0
  have c1 := RX.out.cell 1
  have g1 := RX.out.frozen 1
  have c2 := RX.out.cell 2
  have g2 := RX.out.frozen 2
  have c3 := RX.out.cell 3
  have g3 := RX.out.frozen 3
  have c4 := RX.out.cell 4
  have g4 := RX.out.frozen 4
  have c5 := RX.out.cell 5
  have g5 := RX.out.frozen 5
  have c6 := RX.out.cell 6
  have g6 := RX.out.frozen 6
  have c7 := RX.out.cell 7
  have g7 := RX.out.frozen 7
  unfold zeroC at c0 c1 c2 c3 c4 c5 c6 c7
  go_wp2
  have K1 : PBox (put8 w9 (w.heap.size + 1 + 1) (.int .i64 p.kind) (.slice ad nd cd) (.slice ae ne ce) (.slice af nf cf) (.int .i64 p.root) (.int .i64 p.next) (.int .i64 p.size) (.int .i64 p.idle)) (w.heap.size + 1 + 1) (joinL p q) (.slice ad nd cd) (.slice ae ne ce) (.slice af nf cf) := blk_set8 _ _ _ _ _ _ _ _ RX.out
  have K2 : Hid (Below w.heap.size w (put8 w9 (w.heap.size + 1 + 1) (.int .i64 p.kind) (.slice ad nd cd) (.slice ae ne ce) (.slice af nf cf) (.int .i64 p.root) (.int .i64 p.next) (.int .i64 p.size) (.int .i64 p.idle))) := put8_below YX.out (by omega) _ _ _ _ _ _ _ _
  have K3 : ∀ g, w.heap.size + 3 ≤ g → (put8 w9 (w.heap.size + 1 + 1) (.int .i64 p.kind) (.slice ad nd cd) (.slice ae ne ce) (.slice af nf cf) (.int .i64 p.root) (.int .i64 p.next) (.int .i64 p.size) (.int .i64 p.idle)).heap[g]? = w9.heap[g]? := fun g hg => put8_other _ _ _ _ _ _ _ _ _ _ _ (by omega)
  have K4 : Hid (PgO (put8 w9 (w.heap.size + 1 + 1) (.int .i64 p.kind) (.slice ad nd cd) (.slice ae ne ce) (.slice af nf cf) (.int .i64 p.root) (.int .i64 p.next) (.int .i64 p.size) (.int .i64 p.idle)) (w.heap.size + 3) (joinL p q) (.slice ad nd cd) (.slice ae ne ce) (.slice af nf cf)) := HB.out.own.keep HB.out.own.inP (fun g a _ => K3 g a)
  have hgo : ∀ (Q : World → Prop), Q (put8 w9 (w.heap.size + 1 + 1) (.int .i64 p.kind) (.slice ad nd cd) (.slice ae ne ce) (.slice af nf cf) (.int .i64 p.root) (.int .i64 p.next) (.int .i64 p.size) (.int .i64 p.idle)) → Q ((((((((w9.setCell ⟨w.heap.size + 1 + 1, 0, none⟩ (.int .i64 p.kind)).setCell ⟨w.heap.size + 1 + 1, 1, none⟩ (.slice ad nd cd)).setCell ⟨w.heap.size + 1 + 1, 2, none⟩ (.slice ae ne ce)).setCell ⟨w.heap.size + 1 + 1, 3, none⟩ (.slice af nf cf)).setCell ⟨w.heap.size + 1 + 1, 4, none⟩ (.int .i64 p.root)).setCell ⟨w.heap.size + 1 + 1, 5, none⟩ (.int .i64 p.next)).setCell ⟨w.heap.size + 1 + 1, 6, none⟩ (.int .i64 p.size)).setCell ⟨w.heap.size + 1 + 1, 7, none⟩ (.int .i64 p.idle)) := fun Q h => h
  refine hgo _ ?_
  clear hgo c0 c1 c2 c3 c4 c5 c6 c7 g0 g1 g2 g3 g4 g5 g6 g7 x0' x1 x2 x3 x4' x5' x6' x7' K3
  generalize (put8 w9 (w.heap.size + 1 + 1) (.int .i64 p.kind) (.slice ad nd cd) (.slice ae ne ce) (.slice af nf cf) (.int .i64 p.root) (.int .i64 p.next) (.int .i64 p.size) (.int .i64 p.idle)) = WF at *
  obtain ⟨q0, q1, q2, q3, q4, q5, q6, q7⟩ := K1.cells
  exact bodyPost_ret (v := pgv (joinL p q) (.slice ad nd cd) (.slice ae ne ce) (.slice af nf cf)) (by simp [pgv, results, Try.results34, go_sem, q0, q1, q2, q3, q4, q5, q6, q7]) rfl ⟨_, _, _, rfl, K4.out.at, K2.out⟩

set_option maxRecDepth 100000 in
set_option maxHeartbeats 3000000 in
theorem joinI_any (p q : Pg) (k : ByteArray) (kv vv dv kv' vv' dv' : Value) (w : World) (hp : PgAt w p kv vv dv) (hq : PgAt w q kv' vv' dv') (hkind : p.kind = 2) (hl : p.keys.length ≤ 1000 ∧ p.vals.length ≤ 1000 ∧ p.kids.length ≤ 1000) (hm : q.keys.length ≤ 1000 ∧ q.vals.length ≤ 1000 ∧ q.kids.length ≤ 1000) :
    Calls Try.prog 34 #[pgv p kv vv dv, .string k, pgv q kv' vv' dv'] w fun e w' => ∃ k3 v3 d3, e = .returned (pgv (joinI p k q) k3 v3 d3) ∧ PgAt w' (joinI p k q) k3 v3 d3 ∧ Below w.heap.size w w' := by
  obtain ⟨kn1, ka1, kc1, e1⟩ := hp.keys.any
  obtain ⟨vn1, va1, vc1, e2⟩ := hp.vals.any
  obtain ⟨dn1, da1, dc1, e3⟩ := hp.kids.any
  obtain ⟨kn2, ka2, kc2, e4⟩ := hq.keys.any
  obtain ⟨vn2, va2, vc2, e5⟩ := hq.vals.any
  obtain ⟨dn2, da2, dc2, e6⟩ := hq.kids.any
  subst e1 e2 e3 e4 e5 e6
  have HP : Hid (PgAt w p (.slice ka1 kn1 kc1) (.slice va1 vn1 vc1) (.slice da1 dn1 dc1)) := hp
  have HQ : Hid (PgAt w q (.slice ka2 kn2 kc2) (.slice va2 vn2 vc2) (.slice da2 dn2 dc2)) := hq
  have HB0 : Hid (PBox (((w.alloc (.cells #[.int .i64 p.kind, .slice ka1 kn1 kc1, .slice va1 vn1 vc1, .slice da1 dn1 dc1, .int .i64 p.root, .int .i64 p.next, .int .i64 p.size, .int .i64 p.idle] 25)).alloc (.cells #[.int .i64 q.kind, .slice ka2 kn2 kc2, .slice va2 vn2 vc2, .slice da2 dn2 dc2, .int .i64 q.root, .int .i64 q.next, .int .i64 q.size, .int .i64 q.idle] 25)).alloc (.cells #[.int .i64 0, .slice none 0 0, .slice none 0 0, .slice none 0 0, .int .i64 0, .int .i64 0, .int .i64 0, .int .i64 0] 25)) w.heap.size p (.slice ka1 kn1 kc1) (.slice va1 vn1 vc1) (.slice da1 dn1 dc1)) := ((Blk.new _ _ _).alloc _).alloc _
  have QX : Hid (PBox (((w.alloc (.cells #[.int .i64 p.kind, .slice ka1 kn1 kc1, .slice va1 vn1 vc1, .slice da1 dn1 dc1, .int .i64 p.root, .int .i64 p.next, .int .i64 p.size, .int .i64 p.idle] 25)).alloc (.cells #[.int .i64 q.kind, .slice ka2 kn2 kc2, .slice va2 vn2 vc2, .slice da2 dn2 dc2, .int .i64 q.root, .int .i64 q.next, .int .i64 q.size, .int .i64 q.idle] 25)).alloc (.cells #[.int .i64 0, .slice none 0 0, .slice none 0 0, .slice none 0 0, .int .i64 0, .int .i64 0, .int .i64 0, .int .i64 0] 25)) (w.heap.size + 1) q (.slice ka2 kn2 kc2) (.slice va2 vn2 vc2) (.slice da2 dn2 dc2)) := (blk_two _ _ _ _ _).alloc _
  have RX : Hid (Blk (((w.alloc (.cells #[.int .i64 p.kind, .slice ka1 kn1 kc1, .slice va1 vn1 vc1, .slice da1 dn1 dc1, .int .i64 p.root, .int .i64 p.next, .int .i64 p.size, .int .i64 p.idle] 25)).alloc (.cells #[.int .i64 q.kind, .slice ka2 kn2 kc2, .slice va2 vn2 vc2, .slice da2 dn2 dc2, .int .i64 q.root, .int .i64 q.next, .int .i64 q.size, .int .i64 q.idle] 25)).alloc (.cells #[.int .i64 0, .slice none 0 0, .slice none 0 0, .slice none 0 0, .int .i64 0, .int .i64 0, .int .i64 0, .int .i64 0] 25)) (w.heap.size + 1 + 1) zeroC 25) := by
    have := Blk.new ((w.alloc (.cells #[.int .i64 p.kind, .slice ka1 kn1 kc1, .slice va1 vn1 vc1, .slice da1 dn1 dc1, .int .i64 p.root, .int .i64 p.next, .int .i64 p.size, .int .i64 p.idle] 25)).alloc (.cells #[.int .i64 q.kind, .slice ka2 kn2 kc2, .slice va2 vn2 vc2, .slice da2 dn2 dc2, .int .i64 q.root, .int .i64 q.next, .int .i64 q.size, .int .i64 q.idle] 25)) zeroC 25
    rw [show ((w.alloc (.cells #[.int .i64 p.kind, .slice ka1 kn1 kc1, .slice va1 vn1 vc1, .slice da1 dn1 dc1, .int .i64 p.root, .int .i64 p.next, .int .i64 p.size, .int .i64 p.idle] 25)).alloc (.cells #[.int .i64 q.kind, .slice ka2 kn2 kc2, .slice va2 vn2 vc2, .slice da2 dn2 dc2, .int .i64 q.root, .int .i64 q.next, .int .i64 q.size, .int .i64 q.idle] 25)).heap.size = w.heap.size + 1 + 1 by simp] at this
    exact this
  have YX : Hid (Below w.heap.size w (((w.alloc (.cells #[.int .i64 p.kind, .slice ka1 kn1 kc1, .slice va1 vn1 vc1, .slice da1 dn1 dc1, .int .i64 p.root, .int .i64 p.next, .int .i64 p.size, .int .i64 p.idle] 25)).alloc (.cells #[.int .i64 q.kind, .slice ka2 kn2 kc2, .slice va2 vn2 vc2, .slice da2 dn2 dc2, .int .i64 q.root, .int .i64 q.next, .int .i64 q.size, .int .i64 q.idle] 25)).alloc (.cells #[.int .i64 0, .slice none 0 0, .slice none 0 0, .slice none 0 0, .int .i64 0, .int .i64 0, .int .i64 0, .int .i64 0] 25))) := (((Below.refl _ _).alloc (Nat.le_refl _) _).alloc (by simp) _).alloc (by simp; omega) _
  have SZX : Hid (w.heap.size + 3 ≤ (((w.alloc (.cells #[.int .i64 p.kind, .slice ka1 kn1 kc1, .slice va1 vn1 vc1, .slice da1 dn1 dc1, .int .i64 p.root, .int .i64 p.next, .int .i64 p.size, .int .i64 p.idle] 25)).alloc (.cells #[.int .i64 q.kind, .slice ka2 kn2 kc2, .slice va2 vn2 vc2, .slice da2 dn2 dc2, .int .i64 q.root, .int .i64 q.next, .int .i64 q.size, .int .i64 q.idle] 25)).alloc (.cells #[.int .i64 0, .slice none 0 0, .slice none 0 0, .slice none 0 0, .int .i64 0, .int .i64 0, .int .i64 0, .int .i64 0] 25)).heap.size) := by show _ ≤ _; simp
  have HCL : Hid (∀ W, Below w.heap.size w W → w.heap.size + 3 ≤ W.heap.size → Calls Try.prog 23 #[pgv p (.slice ka1 kn1 kc1) (.slice va1 vn1 vc1) (.slice da1 dn1 dc1)] W fun e w' => ∃ kv' vv' dv', e = .returned (pgv p kv' vv' dv') ∧ PgO w' (w.heap.size + 3) p kv' vv' dv' ∧ Below W.heap.size W w') := fun W hb hs => (pclone_any p _ _ _ W (HP.out.below hb) ⟨by omega, by omega, by omega⟩).mono fun e w' he => by
    obtain ⟨a, b, c, h1, h2, h3⟩ := he
    exact ⟨a, b, c, h1, h2.mono hs, h3⟩
  have LENK : Hid ((p.keys ++ [k]).length + q.keys.length < 1000000000000) := by show _ < _; rw [List.length_append]; simp only [List.length_cons, List.length_nil]; omega
  have LENV : Hid (p.vals.length + q.vals.length < 1000000000000) := by show _ < _; omega
  have LEND : Hid (p.kids.length + q.kids.length < 1000000000000) := by show _ < _; omega
  have LEN1 : Hid (p.keys.length < 1099511627776) := by show _ < _; omega
  have HKD : Hid (p.kind = 2) := hkind
  clear hp hq hl hm hkind
  unfold pgv at *
  go_enter Try.func34, Try.ntmps34
  go_upto_region 1 with fail
  generalize (((w.alloc (.cells #[.int .i64 p.kind, .slice ka1 kn1 kc1, .slice va1 vn1 vc1, .slice da1 dn1 dc1, .int .i64 p.root, .int .i64 p.next, .int .i64 p.size, .int .i64 p.idle] 25)).alloc (.cells #[.int .i64 q.kind, .slice ka2 kn2 kc2, .slice va2 vn2 vc2, .slice da2 dn2 dc2, .int .i64 q.root, .int .i64 q.next, .int .i64 q.size, .int .i64 q.idle] 25)).alloc (.cells #[.int .i64 0, .slice none 0 0, .slice none 0 0, .slice none 0 0, .int .i64 0, .int .i64 0, .int .i64 0, .int .i64 0] 25)) = w0 at *
  obtain ⟨z0, z1, z2, z3, z4, z5, z6, z7⟩ := HB0.out.cells
  go_wp2_with fail
  refine (HCL.out _ YX.out SZX.out).mono ?_
  rintro e w1 ⟨kv, vv, dv, rfl, ho, y⟩
  obtain ⟨kn, ka, kc, e1⟩ := ho.keys.rd.any
  obtain ⟨vn, va, vc, e2⟩ := ho.vals.rd.any
  obtain ⟨dn, da, dc, e3⟩ := ho.kids.rd.any
  subst e1 e2 e3
  have Q1 : Hid (PBox (w1.alloc (.cells #[.int .i64 p.kind, .slice ka kn kc, .slice va vn vc, .slice da dn dc, .int .i64 p.root, .int .i64 p.next, .int .i64 p.size, .int .i64 p.idle] 25)) (w.heap.size + 1) q (.slice ka2 kn2 kc2) (.slice va2 vn2 vc2) (.slice da2 dn2 dc2)) := PBox.below (QX.out.below y) ((Below.refl _ _).alloc (Nat.le_refl _) _)
  have R1 : Hid (Blk (w1.alloc (.cells #[.int .i64 p.kind, .slice ka kn kc, .slice va vn vc, .slice da dn dc, .int .i64 p.root, .int .i64 p.next, .int .i64 p.size, .int .i64 p.idle] 25)) (w.heap.size + 1 + 1) zeroC 25) := (Blk.of RX.out (y.block _ RX.out.lt)).alloc _
  have S1 : Hid (w.heap.size + 3 ≤ (w1.alloc (.cells #[.int .i64 p.kind, .slice ka kn kc, .slice va vn vc, .slice da dn dc, .int .i64 p.root, .int .i64 p.next, .int .i64 p.size, .int .i64 p.idle] 25)).heap.size) := by show _ ≤ _; simp; have := SZX.out; have := y.size; omega
  have Y1 : Hid (Below w.heap.size w (w1.alloc (.cells #[.int .i64 p.kind, .slice ka kn kc, .slice va vn vc, .slice da dn dc, .int .i64 p.root, .int .i64 p.next, .int .i64 p.size, .int .i64 p.idle] 25))) := (ext_trans YX.out y).alloc (ext_trans YX.out y).size _
  have hw1 : w.heap.size + 3 ≤ w1.heap.size := Nat.le_trans SZX.out y.size
  have BX : Hid (Box (w1.alloc (.cells #[.int .i64 p.kind, .slice ka kn kc, .slice va vn vc, .slice da dn dc, .int .i64 p.root, .int .i64 p.next, .int .i64 p.size, .int .i64 p.idle] 25)) (w.heap.size + 3) w1.heap.size p (.slice ka kn kc) (.slice va vn vc) (.slice da dn dc)) := ⟨Blk.new _ _ _, ho.below ((Below.refl _ _).alloc (Nat.le_refl _) _), hw1, fun e => by have := (ho.keys.blk _ e).2; omega, fun e => by have := (ho.vals.blk _ e).2; omega, fun e => by have := (ho.kids.blk _ e).2; omega⟩
  have A1 : Hid (PBox (w1.alloc (.cells #[.int .i64 p.kind, .slice ka kn kc, .slice va vn vc, .slice da dn dc, .int .i64 p.root, .int .i64 p.next, .int .i64 p.size, .int .i64 p.idle] 25)) w.heap.size p (.slice ka1 kn1 kc1) (.slice va1 vn1 vc1) (.slice da1 dn1 dc1)) := PBox.below (HB0.out.below y) ((Below.refl _ _).alloc (Nat.le_refl _) _)
  clear ho y YX QX RX SZX HCL HB0 z0 z1 z2 z3 z4 z5 z6 z7 hw1
  have YX := Y1
  have QX := Q1
  have RX := R1
  have SZX := S1
  clear Y1 Q1 R1 S1
  go_upto_region 2 with fail
  generalize w1.alloc (.cells #[.int .i64 p.kind, .slice ka kn kc, .slice va vn vc, .slice da dn dc, .int .i64 p.root, .int .i64 p.next, .int .i64 p.size, .int .i64 p.idle] 25) = w2 at *
  obtain ⟨b, hbb⟩ : ∃ b, w1.heap.size = b := ⟨_, rfl⟩
  rw [hbb] at BX ⊢
  clear hbb
  have hk0 : w2.cell? ⟨w.heap.size, 0, none⟩ = some (.int .i64 2) := by rw [← HKD.out]; exact A1.out.cells.1
  go_upto_region 3 with fail
  clear hk0 A1
  obtain ⟨z0, z1, z2, z3, z4, z5, z6, z7⟩ := BX.out.box.cells
  have hsz : w.heap.size + 3 ≤ w2.heap.size := SZX.out
  go_wp2_with (at_builtin; refine wpList_pushS w2 rfl _ _ rfl (w.heap.size + 3) (.slice ka kn kc) p.keys k BX.out.own.keys rfl rfl LEN1.out hsz ?_)
  intro ap np cp Xp hnp ho hg hat
  have BXp : Hid (Box (Xp.setCell ⟨b, 1, none⟩ (.slice ap np cp)) (w.heap.size + 3) b _ (.slice ap np cp) (.slice va vn vc) (.slice da dn dc)) := BX.out.pushK ho hg hat
  have Yp : Hid (Below w.heap.size w (Xp.setCell ⟨b, 1, none⟩ (.slice ap np cp))) := push_below YX.out (by omega) (fun g e => Nat.le_trans (by omega) (BX.out.own.keys.blk g e).1) (Nat.le_trans (by omega) BX.out.hb) hg _
  have Qp : Hid (PBox (Xp.setCell ⟨b, 1, none⟩ (.slice ap np cp)) (w.heap.size + 1) q (.slice ka2 kn2 kc2) (.slice va2 vn2 vc2) (.slice da2 dn2 dc2)) := Blk.of QX.out (turn_kept hg _ (Blk.lt QX.out) (fun e => by have := (BX.out.own.keys.blk _ e).1; omega) (by have := BX.out.hb; omega) _)
  have Rp : Hid (Blk (Xp.setCell ⟨b, 1, none⟩ (.slice ap np cp)) (w.heap.size + 1 + 1) zeroC 25) := Blk.of RX.out (turn_kept hg _ (Blk.lt RX.out) (fun e => by have := (BX.out.own.keys.blk _ e).1; omega) (by have := BX.out.hb; omega) _)
  have SZp : Hid (w.heap.size + 3 ≤ (Xp.setCell ⟨b, 1, none⟩ (.slice ap np cp)).heap.size) := Nat.le_trans (Nat.le_trans hsz (Nat.le_trans (by simp) hg.size)) (by simp [World.setCell])
  have pre := BX.out.pre BX.out.nk hg
  clear z0 z1 z2 z3 z4 z5 z6 z7 ho hg hat hsz
  obtain ⟨z0, z1, z2, z3, z4, z5, z6, z7⟩ := pre.cells
  have ff := pre.frozen 1
  clear pre BX YX QX RX SZX hnp
  go_upto_region 4 with fail
  generalize Xp.setCell ⟨b, 1, none⟩ (.slice ap np cp) = w2p at *
  clear z0 z1 z2 z3 z4 z5 z6 z7 ff
  have YX := Yp
  have QX := Qp
  have RX := Rp
  have SZX := SZp
  clear Yp Qp Rp SZp
  obtain ⟨z0, z1, z2, z3, z4, z5, z6, z7⟩ := BXp.out.box.cells
  obtain ⟨y0, y1, y2, y3, y4, y5, y6, y7⟩ := QX.out.cells
  have hsz : w.heap.size + 3 ≤ w2p.heap.size := SZX.out
  go_wp2_with (at_builtin; refine wpList_appS w2p rfl _ _ rfl (w.heap.size + 3) (.slice ap np cp) (.slice ka2 kn2 kc2) _ q.keys BXp.out.own.keys (HQ.out.keys.below (YX.out)) rfl rfl LENK.out hsz ?_)
  intro ad nd cd Xd ho hg hat
  have BXd : Hid (Box (Xd.setCell ⟨b, 1, none⟩ (.slice ad nd cd)) (w.heap.size + 3) b _ (.slice ad nd cd) (.slice va vn vc) (.slice da dn dc)) := BXp.out.joinK ho hg hat
  have Yd : Hid (Below w.heap.size w (Xd.setCell ⟨b, 1, none⟩ (.slice ad nd cd))) := join_below YX.out (by omega) (fun g e => Nat.le_trans (by omega) (BXp.out.own.keys.blk g e).1) (Nat.le_trans (by omega) BXp.out.hb) hg _
  have Qd : Hid (PBox (Xd.setCell ⟨b, 1, none⟩ (.slice ad nd cd)) (w.heap.size + 1) q (.slice ka2 kn2 kc2) (.slice va2 vn2 vc2) (.slice da2 dn2 dc2)) := Blk.of QX.out (join_kept hg _ (Blk.lt QX.out) (fun e => by have := (BXp.out.own.keys.blk _ e).1; omega) (by have := BXp.out.hb; omega) _)
  have Rd : Hid (Blk (Xd.setCell ⟨b, 1, none⟩ (.slice ad nd cd)) (w.heap.size + 1 + 1) zeroC 25) := Blk.of RX.out (join_kept hg _ (Blk.lt RX.out) (fun e => by have := (BXp.out.own.keys.blk _ e).1; omega) (by have := BXp.out.hb; omega) _)
  have pre : PBox Xd b _ (.slice ap np cp) (.slice va vn vc) (.slice da dn dc) := Blk.of BXp.out.box (hg.block b (Blk.lt BXp.out.box) (fun e => BXp.out.nk e.symm))
  have SZd : Hid (w.heap.size + 3 ≤ (Xd.setCell ⟨b, 1, none⟩ (.slice ad nd cd)).heap.size) := Nat.le_trans (Nat.le_trans hsz hg.size) (by simp [World.setCell])
  clear z0 z1 z2 z3 z4 z5 z6 z7 y0 y1 y2 y3 y4 y5 y6 y7 ho hg hat hsz
  obtain ⟨z0, z1, z2, z3, z4, z5, z6, z7⟩ := pre.cells
  have ff := pre.frozen 1
  clear pre BXp YX QX RX SZX
  go_upto_region 5 with fail
  generalize Xd.setCell ⟨b, 1, none⟩ (.slice ad nd cd) = w3 at *
  clear z0 z1 z2 z3 z4 z5 z6 z7 ff
  have YX := Yd
  have QX := Qd
  have RX := Rd
  have SZX := SZd
  clear Yd Qd Rd SZd
  obtain ⟨z0, z1, z2, z3, z4, z5, z6, z7⟩ := BXd.out.box.cells
  obtain ⟨y0, y1, y2, y3, y4, y5, y6, y7⟩ := QX.out.cells
  have hsz : w.heap.size + 3 ≤ w3.heap.size := SZX.out
  go_wp2_with (at_builtin; refine wpList_appS w3 rfl _ _ rfl (w.heap.size + 3) (.slice va vn vc) (.slice va2 vn2 vc2) _ q.vals BXd.out.own.vals (HQ.out.vals.below (YX.out)) rfl rfl LENV.out hsz ?_)
  intro ae ne ce Xe ho hg hat
  have BXe : Hid (Box (Xe.setCell ⟨b, 2, none⟩ (.slice ae ne ce)) (w.heap.size + 3) b _ (.slice ad nd cd) (.slice ae ne ce) (.slice da dn dc)) := BXd.out.joinV ho hg hat
  have Ye : Hid (Below w.heap.size w (Xe.setCell ⟨b, 2, none⟩ (.slice ae ne ce))) := join_below YX.out (by omega) (fun g e => Nat.le_trans (by omega) (BXd.out.own.vals.blk g e).1) (Nat.le_trans (by omega) BXd.out.hb) hg _
  have Qe : Hid (PBox (Xe.setCell ⟨b, 2, none⟩ (.slice ae ne ce)) (w.heap.size + 1) q (.slice ka2 kn2 kc2) (.slice va2 vn2 vc2) (.slice da2 dn2 dc2)) := Blk.of QX.out (join_kept hg _ (Blk.lt QX.out) (fun e => by have := (BXd.out.own.vals.blk _ e).1; omega) (by have := BXd.out.hb; omega) _)
  have Re : Hid (Blk (Xe.setCell ⟨b, 2, none⟩ (.slice ae ne ce)) (w.heap.size + 1 + 1) zeroC 25) := Blk.of RX.out (join_kept hg _ (Blk.lt RX.out) (fun e => by have := (BXd.out.own.vals.blk _ e).1; omega) (by have := BXd.out.hb; omega) _)
  have pre : PBox Xe b _ (.slice ad nd cd) (.slice va vn vc) (.slice da dn dc) := Blk.of BXd.out.box (hg.block b (Blk.lt BXd.out.box) (fun e => BXd.out.nv e.symm))
  have SZe : Hid (w.heap.size + 3 ≤ (Xe.setCell ⟨b, 2, none⟩ (.slice ae ne ce)).heap.size) := Nat.le_trans (Nat.le_trans hsz hg.size) (by simp [World.setCell])
  clear z0 z1 z2 z3 z4 z5 z6 z7 y0 y1 y2 y3 y4 y5 y6 y7 ho hg hat hsz
  obtain ⟨z0, z1, z2, z3, z4, z5, z6, z7⟩ := pre.cells
  have ff := pre.frozen 2
  clear pre BXd YX QX RX SZX
  go_upto_region 6 with fail
  generalize Xe.setCell ⟨b, 2, none⟩ (.slice ae ne ce) = w4 at *
  clear z0 z1 z2 z3 z4 z5 z6 z7 ff
  have YX := Ye
  have QX := Qe
  have RX := Re
  have SZX := SZe
  clear Ye Qe Re SZe
  obtain ⟨z0, z1, z2, z3, z4, z5, z6, z7⟩ := BXe.out.box.cells
  obtain ⟨y0, y1, y2, y3, y4, y5, y6, y7⟩ := QX.out.cells
  have hsz : w.heap.size + 3 ≤ w4.heap.size := SZX.out
  go_wp2_with (at_builtin; refine wpList_appI w4 rfl _ _ rfl (w.heap.size + 3) (.slice da dn dc) (.slice da2 dn2 dc2) _ q.kids BXe.out.own.kids (HQ.out.kids.below (YX.out)) rfl rfl LEND.out hsz ?_)
  intro af nf cf Xf ho hg hat
  have BXf : Hid (Box (Xf.setCell ⟨b, 3, none⟩ (.slice af nf cf)) (w.heap.size + 3) b _ (.slice ad nd cd) (.slice ae ne ce) (.slice af nf cf)) := BXe.out.joinD ho hg hat
  have Yf : Hid (Below w.heap.size w (Xf.setCell ⟨b, 3, none⟩ (.slice af nf cf))) := join_below YX.out (by omega) (fun g e => Nat.le_trans (by omega) (BXe.out.own.kids.blk g e).1) (Nat.le_trans (by omega) BXe.out.hb) hg _
  have Qf : Hid (PBox (Xf.setCell ⟨b, 3, none⟩ (.slice af nf cf)) (w.heap.size + 1) q (.slice ka2 kn2 kc2) (.slice va2 vn2 vc2) (.slice da2 dn2 dc2)) := Blk.of QX.out (join_kept hg _ (Blk.lt QX.out) (fun e => by have := (BXe.out.own.kids.blk _ e).1; omega) (by have := BXe.out.hb; omega) _)
  have Rf : Hid (Blk (Xf.setCell ⟨b, 3, none⟩ (.slice af nf cf)) (w.heap.size + 1 + 1) zeroC 25) := Blk.of RX.out (join_kept hg _ (Blk.lt RX.out) (fun e => by have := (BXe.out.own.kids.blk _ e).1; omega) (by have := BXe.out.hb; omega) _)
  have pre : PBox Xf b _ (.slice ad nd cd) (.slice ae ne ce) (.slice da dn dc) := Blk.of BXe.out.box (hg.block b (Blk.lt BXe.out.box) (fun e => BXe.out.nd e.symm))
  have SZf : Hid (w.heap.size + 3 ≤ (Xf.setCell ⟨b, 3, none⟩ (.slice af nf cf)).heap.size) := Nat.le_trans (Nat.le_trans hsz hg.size) (by simp [World.setCell])
  clear z0 z1 z2 z3 z4 z5 z6 z7 y0 y1 y2 y3 y4 y5 y6 y7 ho hg hat hsz
  obtain ⟨z0, z1, z2, z3, z4, z5, z6, z7⟩ := pre.cells
  have ff := pre.frozen 3
  clear pre BXe YX QX RX SZX
  go_upto_region 7 with fail
  generalize Xf.setCell ⟨b, 3, none⟩ (.slice af nf cf) = w9 at *
  clear z0 z1 z2 z3 z4 z5 z6 z7 ff
  have YX := Yf
  have QX := Qf
  have RX := Rf
  have SZX := SZf
  clear Yf Qf Rf SZf
  have HB : Hid (Box w9 (w.heap.size + 3) b (joinI p k q) (.slice ad nd cd) (.slice ae ne ce) (.slice af nf cf)) := BXf.out
  obtain ⟨x0, x1, x2, x3, x4, x5, x6, x7⟩ := HB.out.box.cells
  have x0' : w9.cell? ⟨b, 0, none⟩ = some (.int .i64 p.kind) := x0
  have x4' : w9.cell? ⟨b, 4, none⟩ = some (.int .i64 p.root) := x4
  have x5' : w9.cell? ⟨b, 5, none⟩ = some (.int .i64 p.next) := x5
  have x6' : w9.cell? ⟨b, 6, none⟩ = some (.int .i64 p.size) := x6
  have x7' : w9.cell? ⟨b, 7, none⟩ = some (.int .i64 p.idle) := x7
  clear x0 x4 x5 x6 x7
  have c0 := RX.out.cell 0
  have g0 := RX.out.frozen 0
  have c1 := RX.out.cell 1
  have g1 := RX.out.frozen 1
  have c2 := RX.out.cell 2
  have g2 := RX.out.frozen 2
  have c3 := RX.out.cell 3
  have g3 := RX.out.frozen 3
  have c4 := RX.out.cell 4
  have g4 := RX.out.frozen 4
  have c5 := RX.out.cell 5
  have g5 := RX.out.frozen 5
  have c6 := RX.out.cell 6
  have g6 := RX.out.frozen 6
  have c7 := RX.out.cell 7
  have g7 := RX.out.frozen 7
  unfold zeroC at c0 c1 c2 c3 c4 c5 c6 c7
  go_wp2
  have K1 : PBox (put8 w9 (w.heap.size + 1 + 1) (.int .i64 p.kind) (.slice ad nd cd) (.slice ae ne ce) (.slice af nf cf) (.int .i64 p.root) (.int .i64 p.next) (.int .i64 p.size) (.int .i64 p.idle)) (w.heap.size + 1 + 1) (joinI p k q) (.slice ad nd cd) (.slice ae ne ce) (.slice af nf cf) := blk_set8 _ _ _ _ _ _ _ _ RX.out
  have K2 : Hid (Below w.heap.size w (put8 w9 (w.heap.size + 1 + 1) (.int .i64 p.kind) (.slice ad nd cd) (.slice ae ne ce) (.slice af nf cf) (.int .i64 p.root) (.int .i64 p.next) (.int .i64 p.size) (.int .i64 p.idle))) := put8_below YX.out (by omega) _ _ _ _ _ _ _ _
  have K3 : ∀ g, w.heap.size + 3 ≤ g → (put8 w9 (w.heap.size + 1 + 1) (.int .i64 p.kind) (.slice ad nd cd) (.slice ae ne ce) (.slice af nf cf) (.int .i64 p.root) (.int .i64 p.next) (.int .i64 p.size) (.int .i64 p.idle)).heap[g]? = w9.heap[g]? := fun g hg => put8_other _ _ _ _ _ _ _ _ _ _ _ (by omega)
  have K4 : Hid (PgO (put8 w9 (w.heap.size + 1 + 1) (.int .i64 p.kind) (.slice ad nd cd) (.slice ae ne ce) (.slice af nf cf) (.int .i64 p.root) (.int .i64 p.next) (.int .i64 p.size) (.int .i64 p.idle)) (w.heap.size + 3) (joinI p k q) (.slice ad nd cd) (.slice ae ne ce) (.slice af nf cf)) := HB.out.own.keep HB.out.own.inP (fun g a _ => K3 g a)
  have hgo : ∀ (Q : World → Prop), Q (put8 w9 (w.heap.size + 1 + 1) (.int .i64 p.kind) (.slice ad nd cd) (.slice ae ne ce) (.slice af nf cf) (.int .i64 p.root) (.int .i64 p.next) (.int .i64 p.size) (.int .i64 p.idle)) → Q ((((((((w9.setCell ⟨w.heap.size + 1 + 1, 0, none⟩ (.int .i64 p.kind)).setCell ⟨w.heap.size + 1 + 1, 1, none⟩ (.slice ad nd cd)).setCell ⟨w.heap.size + 1 + 1, 2, none⟩ (.slice ae ne ce)).setCell ⟨w.heap.size + 1 + 1, 3, none⟩ (.slice af nf cf)).setCell ⟨w.heap.size + 1 + 1, 4, none⟩ (.int .i64 p.root)).setCell ⟨w.heap.size + 1 + 1, 5, none⟩ (.int .i64 p.next)).setCell ⟨w.heap.size + 1 + 1, 6, none⟩ (.int .i64 p.size)).setCell ⟨w.heap.size + 1 + 1, 7, none⟩ (.int .i64 p.idle)) := fun Q h => h
  refine hgo _ ?_
  clear hgo c0 c1 c2 c3 c4 c5 c6 c7 g0 g1 g2 g3 g4 g5 g6 g7 x0' x1 x2 x3 x4' x5' x6' x7' K3
  generalize (put8 w9 (w.heap.size + 1 + 1) (.int .i64 p.kind) (.slice ad nd cd) (.slice ae ne ce) (.slice af nf cf) (.int .i64 p.root) (.int .i64 p.next) (.int .i64 p.size) (.int .i64 p.idle)) = WF at *
  obtain ⟨q0, q1, q2, q3, q4, q5, q6, q7⟩ := K1.cells
  exact bodyPost_ret (v := pgv (joinI p k q) (.slice ad nd cd) (.slice ae ne ce) (.slice af nf cf)) (by simp [pgv, results, Try.results34, go_sem, q0, q1, q2, q3, q4, q5, q6, q7]) rfl ⟨_, _, _, rfl, K4.out.at, K2.out⟩
end Go.Proofs.Ytmjekecalghhdaa

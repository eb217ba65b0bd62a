/- PageSame: the walk of the law's Go text. -/
import Derived.Test.YtcmhhigkhenllaaPg8
import Derived.Test.YtcmhhigkhenllaaPgOpen
import Derived.Deep.Cut
namespace Go.Proofs.Ytcmhhigkhenllaa
open Go.ChangeShapes Go.WideShapes Go.ChangeAt Go.RowKit

theorem and_leP (a : Int) (m : Nat) (hm : m < 9223372036854775808) : ∃ i : Nat, i ≤ m ∧ bits .and .i64 a (m : Int) = (i : Int) := by
  have hle : (BitVec.ofInt 64 a &&& BitVec.ofInt 64 (m : Int)).toNat ≤ m := by
    rw [BitVec.toNat_and]
    refine Nat.le_trans Nat.and_le_right ?_
    rw [BitVec.ofInt_natCast, BitVec.toNat_ofNat]
    exact Nat.mod_le _ _
  refine ⟨(BitVec.ofInt 64 a &&& BitVec.ofInt 64 (m : Int)).toNat, hle, ?_⟩
  show IntKind.i64.wrap ((BitVec.ofInt 64 a &&& BitVec.ofInt 64 (m : Int)).toNat : Int) = _
  rw [IntKind.wrap_i64]
  omega

theorem add_x_ne (k : ByteArray) : ¬ k = k ++ ⟨#[120]⟩ := fun e => by
  have h1 : ByteArray.size ⟨#[120]⟩ = 1 := rfl
  have := congrArg ByteArray.size e
  rw [ByteArray.size_append, h1] at this
  omega
theorem wrap_ne {x : Int} (h : x = wrap64 (x + 1)) : False := by
  unfold wrap64 at h
  omega
theorem grown_kept {w5 w6 : World} {o : Obj} {v : Value} (hg : (w5.alloc o).grownBy w6 v.ownBlock) (g : Nat) (hg5 : g < w5.heap.size) (hn : v.ownBlock ≠ some g) : w6.heap[g]? = w5.heap[g]? := by
  rw [hg.block g (by simp; omega) (fun e => hn e.symm), Below.heap_alloc _ _ _ hg5]

set_option maxRecDepth 100000 in
set_option maxHeartbeats 8000000 in
theorem walk_PageSame (p : Pg) (kv vv dv : Value) (which at_ : Int) (w : World) (hp : PgAt w p kv vv dv) (hok : p.Ok) (hsz : ∀ s ∈ p.keys, s.size ≤ 140737488351232) (_hw1 : (Lit.int .i64 which).wf = true) (_hw2 : (Lit.int .i64 at_).wf = true) :
    Calls Try.prog 5 #[pgv p kv vv dv, .int .i64 which, .int .i64 at_] w fun e w' => e = .returned (.bool true) ∧ Below w.heap.size w w' := by
  have HP : Hid (PgAt w p kv vv dv) := hp
  have HO : Hid p.Ok := hok
  have HZ : Hid (∀ s ∈ p.keys, s.size ≤ 140737488351232) := hsz
  obtain ⟨ka, kc, va, vc, da, dc, rfl, rfl, rfl, b1, b2, b3⟩ := hp.forms
  have HE0 : Hid (∀ o, Below w.heap.size w (w.alloc o)) := fun o => (Below.refl _ _).alloc (Nat.le_refl _) _
  have HB : Hid (∀ kn vn dn, PBox (w.alloc (.cells #[.int .i64 p.kind, .slice ka kn kc, .slice va vn vc, .slice da dn dc, .int .i64 p.root, .int .i64 p.next, .int .i64 p.size, .int .i64 p.idle] 25)) w.heap.size p (.slice ka kn kc) (.slice va vn vc) (.slice da dn dc)) := fun kn vn dn => pbox_new _ _ _ _ _
  obtain ⟨kn, hkn⟩ : ∃ n, p.keys.length = n := ⟨_, rfl⟩
  have HKN : Hid (p.keys.length = kn) := hkn
  rw [hkn] at HP b1 ⊢
  clear hp hok hsz hkn
  generalize p.vals.length = vn at *
  generalize p.kids.length = dn at *
  unfold maxLen at *
  unfold pgv
  go_enter Try.func5, Try.ntmps5
  go_wp2_with fail
  refine (head6_any _).mono ?_
  rintro e w1 ⟨rfl, y⟩
  have Y1 : Hid (Below w.heap.size w w1) := ext_trans (HE0.out _) y
  have B1 : Hid (PBox w1 w.heap.size p (.slice ka kn kc) (.slice va vn vc) (.slice da dn dc)) := (HB.out _ _ _).below y
  clear y HB HE0
  obtain ⟨z0, z1, z2, z3, z4, z5, z6, z7⟩ := B1.out.cells
  go_wp2_with fail
  refine (small_any p _ _ _ w1 (HP.out.below Y1.out)).mono ?_
  rintro e w2 ⟨rfl, y⟩
  have Y2 : Hid (Below w.heap.size w w2) := ext_trans Y1.out y
  have B2 : Hid (PBox w2 w.heap.size p (.slice ka kn kc) (.slice va vn vc) (.slice da dn dc)) := B1.out.below y
  clear y z0 z1 z2 z3 z4 z5 z6 z7 B1 Y1
  cases hsm : smallPg p with
  | false =>
    go_wp2
    go_ret
    exact ⟨rfl, Y2.out⟩
  | true =>
    obtain ⟨z0, z1, z2, z3, z4, z5, z6, z7⟩ := B2.out.cells
    have HSM : Hid (smallPg p = true) := hsm
    clear hsm
    go_wp2_with fail
    refine (pclone_any p _ _ _ w2 (HP.out.below Y2.out) (by
      have := HSM.out
      simp only [smallPg, Bool.and_eq_true, decide_eq_true_eq] at this
      omega)).mono ?_
    rintro e w3 ⟨kv', vv', dv', rfl, o3, y⟩
    have Y3 : Hid (Below w.heap.size w w3) := ext_trans Y2.out y
    have B3 : Hid (PBox w3 w.heap.size p (.slice ka kn kc) (.slice va vn vc) (.slice da dn dc)) := B2.out.below y
    have O3 : Hid (PgO w3 w2.heap.size p kv' vv' dv') := o3
    obtain ⟨ka', kc', va', vc', da', dc', hk', hv', hd', b1', b2', b3'⟩ := o3.at.forms
    rw [HKN.out] at hk'
    subst hk' hv' hd'
    have hs2 : w.heap.size < w2.heap.size := Blk.lt B2.out
    have hs23 := y.size
    clear y z0 z1 z2 z3 z4 z5 z6 z7 B2 Y2 o3 b1' b2' b3'
    obtain ⟨vn', hvn'⟩ : ∃ n, p.vals.length = n := ⟨_, rfl⟩
    obtain ⟨dn', hdn'⟩ : ∃ n, p.kids.length = n := ⟨_, rfl⟩
    have HVN : Hid (p.vals.length = vn') := hvn'
    have HDN : Hid (p.kids.length = dn') := hdn'
    rw [hvn', hdn'] at O3
    rw [hvn', hdn']
    clear hvn' hdn'
    unfold pgv
    have B4 : Hid (PBox (w3.alloc (.cells #[.int .i64 p.kind, .slice ka' kn kc', .slice va' vn' vc', .slice da' dn' dc', .int .i64 p.root, .int .i64 p.next, .int .i64 p.size, .int .i64 p.idle] 25)) w3.heap.size p (.slice ka' kn kc') (.slice va' vn' vc') (.slice da' dn' dc')) := pbox_new _ _ _ _ _
    have X4 : Hid (∀ o, Below w3.heap.size w3 (w3.alloc o)) := fun o => (Below.refl _ _).alloc (Nat.le_refl _) _
    obtain ⟨z0, z1, z2, z3, z4, z5, z6, z7⟩ := B3.out.cells
    have l0 := cell_lt z0
    go_wp2_with fail
    refine (psame_any p p _ _ _ _ _ _ _ (O3.out.at.below (X4.out _)) (HP.out.below (ext_trans Y3.out (X4.out _)))).mono ?_
    rintro e w4 ⟨rfl, y⟩
    have hpp : samePg p p = true := (samePg_iff p p).2 rfl
    rw [hpp]
    have B5 : Hid (PBox w4 w3.heap.size p (.slice ka' kn kc') (.slice va' vn' vc') (.slice da' dn' dc')) := B4.out.below y
    have A5 : Hid (PBox w4 w.heap.size p (.slice ka kn kc) (.slice va vn vc) (.slice da dn dc)) := (B3.out.below (X4.out _)).below y
    have Y5 : Hid (Below w.heap.size w w4) := ext_trans (ext_trans Y3.out (X4.out _)) y
    have O5 : Hid (PgO w4 w2.heap.size p (.slice ka' kn kc') (.slice va' vn' vc') (.slice da' dn' dc')) := (O3.out.below (X4.out _)).below y
    have X5 : Hid (Below w3.heap.size w3 w4) := ext_trans (X4.out _) y
    clear y z0 z1 z2 z3 z4 z5 z6 z7 l0 B4 X4 B3 Y3
    obtain ⟨z0, z1, z2, z3, z4, z5, z6, z7⟩ := B5.out.cells
    obtain ⟨x0, x1, x2, x3, x4, x5, x6, x7⟩ := A5.out.cells
    go_wp2_with fail
    refine (psame_any p p _ _ _ _ _ _ _ (HP.out.below Y5.out) O5.out.at).mono ?_
    rintro e w5 ⟨rfl, y⟩
    rw [hpp]
    have B6 : Hid (PBox w5 w3.heap.size p (.slice ka' kn kc') (.slice va' vn' vc') (.slice da' dn' dc')) := B5.out.below y
    have A6 : Hid (PBox w5 w.heap.size p (.slice ka kn kc) (.slice va vn vc) (.slice da dn dc)) := A5.out.below y
    have Y6 : Hid (Below w.heap.size w w5) := ext_trans Y5.out y
    have O6 : Hid (PgO w5 w2.heap.size p (.slice ka' kn kc') (.slice va' vn' vc') (.slice da' dn' dc')) := O5.out.below y
    have X6 : Hid (Below w3.heap.size w3 w5) := ext_trans X5.out y
    clear y z0 z1 z2 z3 z4 z5 z6 z7 x0 x1 x2 x3 x4 x5 x6 x7 B5 A5 Y5 O5 X5 hpp
    have P6 : Hid (PgAt w5 p (.slice ka kn kc) (.slice va vn vc) (.slice da dn dc)) := HP.out.below Y6.out
    obtain ⟨z0, z1, z2, z3, z4, z5, z6, z7⟩ := B6.out.cells
    obtain ⟨x0, x1, x2, x3, x4, x5, x6, x7⟩ := A6.out.cells
    have f7 := B6.out.frozen 7
    obtain ⟨A, hA31, hA⟩ := and_leP at_ 31 (by omega)
    have hA' : bits BinOp.and IntKind.i64 at_ 31 = (A : Int) := hA
    clear hA
    have hlt3 : w.heap.size < w3.heap.size := Nat.lt_of_lt_of_le hs2 hs23
    have hne3 : ¬ w.heap.size = w3.heap.size := by omega
    have hne3' : ¬ w3.heap.size = w.heap.size := by omega
    clear f7
    cases h8 : (bits BinOp.and IntKind.i64 which 8 == 8) with
    | true =>
      have HNE : Hid (¬ p = { p with idle := wrap64 (p.idle + 1) }) := fun e => by
        have h := congrArg Pg.idle e
        exact wrap_ne h
      have YW : Hid (Below w.heap.size w (w5.setCell ⟨w3.heap.size, 7, none⟩ (.int .i64 (wrap64 (p.idle + 1))))) := Y6.out.setCell (Nat.le_of_lt hlt3) _
      have AW : Hid (PBox (w5.setCell ⟨w3.heap.size, 7, none⟩ (.int .i64 (wrap64 (p.idle + 1)))) w.heap.size p (.slice ka kn kc) (.slice va vn vc) (.slice da dn dc)) := Blk.setOther A6.out 7 _ (Nat.ne_of_lt hlt3)
      have BW : Hid (PBox (w5.setCell ⟨w3.heap.size, 7, none⟩ (.int .i64 (wrap64 (p.idle + 1)))) w3.heap.size { p with idle := wrap64 (p.idle + 1) } (.slice ka' kn kc') (.slice va' vn' vc') (.slice da' dn' dc')) := Blk.set B6.out 7 _
      have PW : Hid (PgAt (w5.setCell ⟨w3.heap.size, 7, none⟩ (.int .i64 (wrap64 (p.idle + 1)))) p (.slice ka kn kc) (.slice va vn vc) (.slice da dn dc)) := HP.out.below YW.out
      have qw0 : PgAt (w5.setCell ⟨w3.heap.size, 7, none⟩ (.int .i64 (wrap64 (p.idle + 1)))) p (.slice ka' kn kc') (.slice va' vn' vc') (.slice da' dn' dc') := O3.out.at.below (X6.out.setCell (p := ⟨w3.heap.size, 7, none⟩) (Nat.le_refl _) _)
      have QW : Hid (PgAt (w5.setCell ⟨w3.heap.size, 7, none⟩ (.int .i64 (wrap64 (p.idle + 1)))) { p with idle := wrap64 (p.idle + 1) } (.slice ka' kn kc') (.slice va' vn' vc') (.slice da' dn' dc')) := ⟨qw0.keys, qw0.vals, qw0.kids⟩
      have ff := B6.out.frozen 7
      clear qw0
      go_upto_region 11 with fail
      generalize w5.setCell ⟨w3.heap.size, 7, none⟩ (.int .i64 (wrap64 (p.idle + 1))) = W6 at *
      clear z0 z1 z2 z3 z4 z5 z6 z7 x0 x1 x2 x3 x4 x5 x6 x7
      obtain ⟨z0, z1, z2, z3, z4, z5, z6, z7⟩ := BW.out.cells
      obtain ⟨x0, x1, x2, x3, x4, x5, x6, x7⟩ := AW.out.cells
      go_wp2_with fail
      refine (psame_any p { p with idle := wrap64 (p.idle + 1) } _ _ _ _ _ _ _ PW.out QW.out).mono ?_
      rintro e w7 ⟨rfl, y⟩
      have e1 : samePg p { p with idle := wrap64 (p.idle + 1) } = false := by rw [← Bool.not_eq_true, samePg_iff]; exact HNE.out
      have e2 : samePg { p with idle := wrap64 (p.idle + 1) } p = false := by rw [← Bool.not_eq_true, samePg_iff]; exact fun e => HNE.out e.symm
      rw [e1]
      have C1 : Hid (PBox w7 w.heap.size p (.slice ka kn kc) (.slice va vn vc) (.slice da dn dc)) := AW.out.below y
      have C2 : Hid (PBox w7 w3.heap.size { p with idle := wrap64 (p.idle + 1) } (.slice ka' kn kc') (.slice va' vn' vc') (.slice da' dn' dc')) := BW.out.below y
      have C3 : Hid (Below w.heap.size w w7) := ext_trans YW.out y
      have C4 : Hid (Calls Try.prog 22 #[pgv { p with idle := wrap64 (p.idle + 1) } (.slice ka' kn kc') (.slice va' vn' vc') (.slice da' dn' dc'), pgv p (.slice ka kn kc) (.slice va vn vc) (.slice da dn dc)] w7 fun e w' => e = .returned (.bool false) ∧ Below w7.heap.size w7 w') := by
        rw [← e2]
        exact psame_any { p with idle := wrap64 (p.idle + 1) } p _ _ _ _ _ _ _ (QW.out.below y) (PW.out.below y)
      unfold pgv at C4
      clear y z0 z1 z2 z3 z4 z5 z6 z7 x0 x1 x2 x3 x4 x5 x6 x7 e1 e2
      obtain ⟨z0, z1, z2, z3, z4, z5, z6, z7⟩ := C2.out.cells
      obtain ⟨x0, x1, x2, x3, x4, x5, x6, x7⟩ := C1.out.cells
      go_wp2_with fail
      refine C4.out.mono ?_
      rintro e w8 ⟨rfl, y⟩
      have C5 : Hid (Below w.heap.size w w8) := ext_trans C3.out y
      clear y z0 z1 z2 z3 z4 z5 z6 z7 x0 x1 x2 x3 x4 x5 x6 x7
      go_wp2
      go_ret
      exact ⟨rfl, C5.out⟩
    | false =>
      obtain ⟨X, hX⟩ : ∃ X, bits BinOp.and IntKind.i64 which 7 = X := ⟨_, rfl⟩
      cases h0' : (X == 0) with
      | true =>
        have HNE : Hid (¬ p = { p with kind := wrap64 (p.kind + 1) }) := fun e => by
          have h := congrArg Pg.kind e
          exact wrap_ne h
        have YW : Hid (Below w.heap.size w (w5.setCell ⟨w3.heap.size, 0, none⟩ (.int .i64 (wrap64 (p.kind + 1))))) := Y6.out.setCell (Nat.le_of_lt hlt3) _
        have AW : Hid (PBox (w5.setCell ⟨w3.heap.size, 0, none⟩ (.int .i64 (wrap64 (p.kind + 1)))) w.heap.size p (.slice ka kn kc) (.slice va vn vc) (.slice da dn dc)) := Blk.setOther A6.out 0 _ (Nat.ne_of_lt hlt3)
        have BW : Hid (PBox (w5.setCell ⟨w3.heap.size, 0, none⟩ (.int .i64 (wrap64 (p.kind + 1)))) w3.heap.size { p with kind := wrap64 (p.kind + 1) } (.slice ka' kn kc') (.slice va' vn' vc') (.slice da' dn' dc')) := Blk.set B6.out 0 _
        have PW : Hid (PgAt (w5.setCell ⟨w3.heap.size, 0, none⟩ (.int .i64 (wrap64 (p.kind + 1)))) p (.slice ka kn kc) (.slice va vn vc) (.slice da dn dc)) := HP.out.below YW.out
        have qw0 : PgAt (w5.setCell ⟨w3.heap.size, 0, none⟩ (.int .i64 (wrap64 (p.kind + 1)))) p (.slice ka' kn kc') (.slice va' vn' vc') (.slice da' dn' dc') := O3.out.at.below (X6.out.setCell (p := ⟨w3.heap.size, 0, none⟩) (Nat.le_refl _) _)
        have QW : Hid (PgAt (w5.setCell ⟨w3.heap.size, 0, none⟩ (.int .i64 (wrap64 (p.kind + 1)))) { p with kind := wrap64 (p.kind + 1) } (.slice ka' kn kc') (.slice va' vn' vc') (.slice da' dn' dc')) := ⟨qw0.keys, qw0.vals, qw0.kids⟩
        have ff := B6.out.frozen 0
        clear qw0
        go_upto_region 32 with fail
        generalize w5.setCell ⟨w3.heap.size, 0, none⟩ (.int .i64 (wrap64 (p.kind + 1))) = W6 at *
        clear z0 z1 z2 z3 z4 z5 z6 z7 x0 x1 x2 x3 x4 x5 x6 x7
        obtain ⟨z0, z1, z2, z3, z4, z5, z6, z7⟩ := BW.out.cells
        obtain ⟨x0, x1, x2, x3, x4, x5, x6, x7⟩ := AW.out.cells
        go_wp2_with fail
        refine (psame_any p { p with kind := wrap64 (p.kind + 1) } _ _ _ _ _ _ _ PW.out QW.out).mono ?_
        rintro e w7 ⟨rfl, y⟩
        have e1 : samePg p { p with kind := wrap64 (p.kind + 1) } = false := by rw [← Bool.not_eq_true, samePg_iff]; exact HNE.out
        have e2 : samePg { p with kind := wrap64 (p.kind + 1) } p = false := by rw [← Bool.not_eq_true, samePg_iff]; exact fun e => HNE.out e.symm
        rw [e1]
        have C1 : Hid (PBox w7 w.heap.size p (.slice ka kn kc) (.slice va vn vc) (.slice da dn dc)) := AW.out.below y
        have C2 : Hid (PBox w7 w3.heap.size { p with kind := wrap64 (p.kind + 1) } (.slice ka' kn kc') (.slice va' vn' vc') (.slice da' dn' dc')) := BW.out.below y
        have C3 : Hid (Below w.heap.size w w7) := ext_trans YW.out y
        have C4 : Hid (Calls Try.prog 22 #[pgv { p with kind := wrap64 (p.kind + 1) } (.slice ka' kn kc') (.slice va' vn' vc') (.slice da' dn' dc'), pgv p (.slice ka kn kc) (.slice va vn vc) (.slice da dn dc)] w7 fun e w' => e = .returned (.bool false) ∧ Below w7.heap.size w7 w') := by
          rw [← e2]
          exact psame_any { p with kind := wrap64 (p.kind + 1) } p _ _ _ _ _ _ _ (QW.out.below y) (PW.out.below y)
        unfold pgv at C4
        clear y z0 z1 z2 z3 z4 z5 z6 z7 x0 x1 x2 x3 x4 x5 x6 x7 e1 e2
        obtain ⟨z0, z1, z2, z3, z4, z5, z6, z7⟩ := C2.out.cells
        obtain ⟨x0, x1, x2, x3, x4, x5, x6, x7⟩ := C1.out.cells
        go_wp2_with fail
        refine C4.out.mono ?_
        rintro e w8 ⟨rfl, y⟩
        have C5 : Hid (Below w.heap.size w w8) := ext_trans C3.out y
        clear y z0 z1 z2 z3 z4 z5 z6 z7 x0 x1 x2 x3 x4 x5 x6 x7
        go_wp2
        go_ret
        exact ⟨rfl, C5.out⟩
      | false =>
        cases h1' : (X == 1) with
        | true =>
          have HNE : Hid (¬ p = { p with keys := p.keys ++ [(⟨#[120]⟩ : ByteArray)] }) := fun e => by
            have h := congrArg (fun x => x.keys.length) e
            simp at h
          have hrow : w5.ownsRow w2.heap.size 9 1 (.slice ka' kn kc') kn (sv p.keys) := by
            have := O6.out.keys
            unfold OwnV at this
            rwa [sv_length, HKN.out] at this
          have HROW : Hid (_ = _) := HKN.out
          have h20 : kn ≤ 20 := by
            have := HSM.out
            simp only [smallPg, Bool.and_eq_true, decide_eq_true_eq] at this
            have := HKN.out
            omega
          obtain ⟨i0, hi, hz0, hz1, hz2⟩ := info_parts infoS
          have hs5 : w2.heap.size ≤ w5.heap.size := Nat.le_trans hs23 X6.out.size
          have ff5 := B6.out.frozen 1
          go_wp2_with (at_builtin; refine wpList_append_own_at _ rfl _ _ 22 rfl w2.heap.size 9 i0 (.string ⟨#[]⟩) 1 16 Try.underlying22 hi hz0 hz1 hz2 rfl (by decide) _ kn (sv p.keys) rfl (World.ownsRow.alloc hrow _) ⟨w5.heap.size, 0, none⟩ 1 1 [.string ⟨#[120]⟩] rfl rfl (cell_one_new _ _ _) (by intro u hu; simp at hu; subst hu; rfl) (by unfold maxLen; omega) (by omega) (by simp; omega) ?_)
          intro v' w6 hown hgrow hnil hat
          have o6 : OwnV w6 w2.heap.size 9 v' (sv (p.keys ++ [(⟨#[120]⟩ : ByteArray)])) := by
            unfold OwnV
            rw [sv_length, List.length_append, HKN.out]
            simpa [sv] using hown
          obtain ⟨a6, c6, hv6⟩ : ∃ a c, v' = .slice a (kn + 1) c := by
            obtain ⟨a, c, h⟩ := o6.rd.form
            rw [sv_length, List.length_append, HKN.out] at h
            exact ⟨a, c, h⟩
          subst hv6
          have hold : ∀ g, ((.slice ka' kn kc') : Value).ownBlock = some g → w2.heap.size ≤ g ∧ g < w3.heap.size := fun g hg => O3.out.keys.blk g hg
          have hkept : ∀ g, g < w5.heap.size → ((.slice ka' kn kc') : Value).ownBlock ≠ some g → w6.heap[g]? = w5.heap[g]? := fun g h1 h2 => grown_kept hgrow g h1 h2
          have h35 : w3.heap.size < w5.heap.size := Blk.lt B6.out
          have hYw6 : Below w.heap.size w w6 := (Y6.out.alloc Y6.out.size _).grown hgrow (by have := Y6.out.size; simp; omega) (fun k hk => by have := (hold k hk).1; omega)
          have YW : Hid (Below w.heap.size w (w6.setCell ⟨w3.heap.size, 1, none⟩ (.slice a6 (kn + 1) c6))) := hYw6.setCell (Nat.le_of_lt hlt3) _
          have ha6 : PBox w6 w.heap.size p (.slice ka kn kc) (.slice va vn vc) (.slice da dn dc) := Blk.of A6.out (hkept _ (by omega) (fun e => by have := (hold _ e).1; omega))
          have hb6 : PBox w6 w3.heap.size p (.slice ka' kn kc') (.slice va' vn' vc') (.slice da' dn' dc') := Blk.of B6.out (hkept _ h35 (fun e => by have := (hold _ e).2; omega))
          have AW : Hid (PBox (w6.setCell ⟨w3.heap.size, 1, none⟩ (.slice a6 (kn + 1) c6)) w.heap.size p (.slice ka kn kc) (.slice va vn vc) (.slice da dn dc)) := Blk.setOther ha6 1 _ (Nat.ne_of_lt hlt3)
          have BW : Hid (PBox (w6.setCell ⟨w3.heap.size, 1, none⟩ (.slice a6 (kn + 1) c6)) w3.heap.size { p with keys := p.keys ++ [(⟨#[120]⟩ : ByteArray)] } (.slice a6 (kn + 1) c6) (.slice va' vn' vc') (.slice da' dn' dc')) := Blk.set hb6 1 _
          have PW : Hid (PgAt (w6.setCell ⟨w3.heap.size, 1, none⟩ (.slice a6 (kn + 1) c6)) p (.slice ka kn kc) (.slice va vn vc) (.slice da dn dc)) := HP.out.below YW.out
          have r_keys : Rd (w6.setCell ⟨w3.heap.size, 1, none⟩ (.slice a6 (kn + 1) c6)) (.slice a6 (kn + 1) c6) (sv (p.keys ++ [(⟨#[120]⟩ : ByteArray)])) := (o6.kept (fun g hg => by
            rw [Below.heap_setCell _ _ _ _ ?_]
            rintro rfl
            rcases hat with e | e
            · rw [e] at hg; have := (hold _ hg).2; simp at this
            · rw [e] at hg; simp at hg; omega)).rd
          have r_vals : Rd (w6.setCell ⟨w3.heap.size, 1, none⟩ (.slice a6 (kn + 1) c6)) (.slice va' vn' vc') (sv p.vals) := (O3.out.vals.kept (fun g hg => by
            have hl := (O3.out.vals.blk g hg).2
            rw [Below.heap_setCell _ _ _ _ (by simp; omega), hkept g (by omega) (fun e => O3.out.fkv g e hg), X6.out.block g hl])).rd
          have r_kids : Rd (w6.setCell ⟨w3.heap.size, 1, none⟩ (.slice a6 (kn + 1) c6)) (.slice da' dn' dc') (iv p.kids) := (O3.out.kids.kept (fun g hg => by
            have hl := (O3.out.kids.blk g hg).2
            rw [Below.heap_setCell _ _ _ _ (by simp; omega), hkept g (by omega) (fun e => O3.out.fkd g e hg), X6.out.block g hl])).rd
          have QW : Hid (PgAt (w6.setCell ⟨w3.heap.size, 1, none⟩ (.slice a6 (kn + 1) c6)) { p with keys := p.keys ++ [(⟨#[120]⟩ : ByteArray)] } (.slice a6 (kn + 1) c6) (.slice va' vn' vc') (.slice da' dn' dc')) := ⟨r_keys, r_vals, r_kids⟩
          clear z0 z1 z2 z3 z4 z5 z6 z7 x0 x1 x2 x3 x4 x5 x6 x7 r_keys r_vals r_kids o6 hown hgrow hnil hat hold hkept hYw6 hrow ff5
          obtain ⟨z0, z1, z2, z3, z4, z5, z6, z7⟩ := hb6.cells
          obtain ⟨x0, x1, x2, x3, x4, x5, x6, x7⟩ := ha6.cells
          have ff := hb6.frozen 1
          clear ha6 hb6
          go_upto_region 32 with fail
          generalize w6.setCell ⟨w3.heap.size, 1, none⟩ (.slice a6 (kn + 1) c6) = W6 at *
          clear z0 z1 z2 z3 z4 z5 z6 z7 x0 x1 x2 x3 x4 x5 x6 x7
          obtain ⟨z0, z1, z2, z3, z4, z5, z6, z7⟩ := BW.out.cells
          obtain ⟨x0, x1, x2, x3, x4, x5, x6, x7⟩ := AW.out.cells
          go_wp2_with fail
          refine (psame_any p { p with keys := p.keys ++ [(⟨#[120]⟩ : ByteArray)] } _ _ _ _ _ _ _ PW.out QW.out).mono ?_
          rintro e w7 ⟨rfl, y⟩
          have e1 : samePg p { p with keys := p.keys ++ [(⟨#[120]⟩ : ByteArray)] } = false := by rw [← Bool.not_eq_true, samePg_iff]; exact HNE.out
          have e2 : samePg { p with keys := p.keys ++ [(⟨#[120]⟩ : ByteArray)] } p = false := by rw [← Bool.not_eq_true, samePg_iff]; exact fun e => HNE.out e.symm
          rw [e1]
          have C1 : Hid (PBox w7 w.heap.size p (.slice ka kn kc) (.slice va vn vc) (.slice da dn dc)) := AW.out.below y
          have C2 : Hid (PBox w7 w3.heap.size { p with keys := p.keys ++ [(⟨#[120]⟩ : ByteArray)] } (.slice a6 (kn + 1) c6) (.slice va' vn' vc') (.slice da' dn' dc')) := BW.out.below y
          have C3 : Hid (Below w.heap.size w w7) := ext_trans YW.out y
          have C4 : Hid (Calls Try.prog 22 #[pgv { p with keys := p.keys ++ [(⟨#[120]⟩ : ByteArray)] } (.slice a6 (kn + 1) c6) (.slice va' vn' vc') (.slice da' dn' dc'), pgv p (.slice ka kn kc) (.slice va vn vc) (.slice da dn dc)] w7 fun e w' => e = .returned (.bool false) ∧ Below w7.heap.size w7 w') := by
            rw [← e2]
            exact psame_any { p with keys := p.keys ++ [(⟨#[120]⟩ : ByteArray)] } p _ _ _ _ _ _ _ (QW.out.below y) (PW.out.below y)
          unfold pgv at C4
          clear y z0 z1 z2 z3 z4 z5 z6 z7 x0 x1 x2 x3 x4 x5 x6 x7 e1 e2
          obtain ⟨z0, z1, z2, z3, z4, z5, z6, z7⟩ := C2.out.cells
          obtain ⟨x0, x1, x2, x3, x4, x5, x6, x7⟩ := C1.out.cells
          go_wp2_with fail
          refine C4.out.mono ?_
          rintro e w8 ⟨rfl, y⟩
          have C5 : Hid (Below w.heap.size w w8) := ext_trans C3.out y
          clear y z0 z1 z2 z3 z4 z5 z6 z7 x0 x1 x2 x3 x4 x5 x6 x7
          go_wp2
          go_ret
          exact ⟨rfl, C5.out⟩
        | false =>
          cases h2' : (X == 2) with
          | true =>
            have HNE : Hid (¬ p = { p with vals := p.vals ++ [(⟨#[120]⟩ : ByteArray)] }) := fun e => by
              have h := congrArg (fun x => x.vals.length) e
              simp at h
            have hrow : w5.ownsRow w2.heap.size 9 1 (.slice va' vn' vc') vn' (sv p.vals) := by
              have := O6.out.vals
              unfold OwnV at this
              rwa [sv_length, HVN.out] at this
            have HROW : Hid (_ = _) := HVN.out
            have h20 : vn' ≤ 20 := by
              have := HSM.out
              simp only [smallPg, Bool.and_eq_true, decide_eq_true_eq] at this
              have := HVN.out
              omega
            obtain ⟨i0, hi, hz0, hz1, hz2⟩ := info_parts infoS
            have hs5 : w2.heap.size ≤ w5.heap.size := Nat.le_trans hs23 X6.out.size
            have ff5 := B6.out.frozen 2
            go_wp2_with (at_builtin; refine wpList_append_own_at _ rfl _ _ 22 rfl w2.heap.size 9 i0 (.string ⟨#[]⟩) 1 16 Try.underlying22 hi hz0 hz1 hz2 rfl (by decide) _ vn' (sv p.vals) rfl (World.ownsRow.alloc hrow _) ⟨w5.heap.size, 0, none⟩ 1 1 [.string ⟨#[120]⟩] rfl rfl (cell_one_new _ _ _) (by intro u hu; simp at hu; subst hu; rfl) (by unfold maxLen; omega) (by omega) (by simp; omega) ?_)
            intro v' w6 hown hgrow hnil hat
            have o6 : OwnV w6 w2.heap.size 9 v' (sv (p.vals ++ [(⟨#[120]⟩ : ByteArray)])) := by
              unfold OwnV
              rw [sv_length, List.length_append, HVN.out]
              simpa [sv] using hown
            obtain ⟨a6, c6, hv6⟩ : ∃ a c, v' = .slice a (vn' + 1) c := by
              obtain ⟨a, c, h⟩ := o6.rd.form
              rw [sv_length, List.length_append, HVN.out] at h
              exact ⟨a, c, h⟩
            subst hv6
            have hold : ∀ g, ((.slice va' vn' vc') : Value).ownBlock = some g → w2.heap.size ≤ g ∧ g < w3.heap.size := fun g hg => O3.out.vals.blk g hg
            have hkept : ∀ g, g < w5.heap.size → ((.slice va' vn' vc') : Value).ownBlock ≠ some g → w6.heap[g]? = w5.heap[g]? := fun g h1 h2 => grown_kept hgrow g h1 h2
            have h35 : w3.heap.size < w5.heap.size := Blk.lt B6.out
            have hYw6 : Below w.heap.size w w6 := (Y6.out.alloc Y6.out.size _).grown hgrow (by have := Y6.out.size; simp; omega) (fun k hk => by have := (hold k hk).1; omega)
            have YW : Hid (Below w.heap.size w (w6.setCell ⟨w3.heap.size, 2, none⟩ (.slice a6 (vn' + 1) c6))) := hYw6.setCell (Nat.le_of_lt hlt3) _
            have ha6 : PBox w6 w.heap.size p (.slice ka kn kc) (.slice va vn vc) (.slice da dn dc) := Blk.of A6.out (hkept _ (by omega) (fun e => by have := (hold _ e).1; omega))
            have hb6 : PBox w6 w3.heap.size p (.slice ka' kn kc') (.slice va' vn' vc') (.slice da' dn' dc') := Blk.of B6.out (hkept _ h35 (fun e => by have := (hold _ e).2; omega))
            have AW : Hid (PBox (w6.setCell ⟨w3.heap.size, 2, none⟩ (.slice a6 (vn' + 1) c6)) w.heap.size p (.slice ka kn kc) (.slice va vn vc) (.slice da dn dc)) := Blk.setOther ha6 2 _ (Nat.ne_of_lt hlt3)
            have BW : Hid (PBox (w6.setCell ⟨w3.heap.size, 2, none⟩ (.slice a6 (vn' + 1) c6)) w3.heap.size { p with vals := p.vals ++ [(⟨#[120]⟩ : ByteArray)] } (.slice ka' kn kc') (.slice a6 (vn' + 1) c6) (.slice da' dn' dc')) := Blk.set hb6 2 _
            have PW : Hid (PgAt (w6.setCell ⟨w3.heap.size, 2, none⟩ (.slice a6 (vn' + 1) c6)) p (.slice ka kn kc) (.slice va vn vc) (.slice da dn dc)) := HP.out.below YW.out
            have r_vals : Rd (w6.setCell ⟨w3.heap.size, 2, none⟩ (.slice a6 (vn' + 1) c6)) (.slice a6 (vn' + 1) c6) (sv (p.vals ++ [(⟨#[120]⟩ : ByteArray)])) := (o6.kept (fun g hg => by
              rw [Below.heap_setCell _ _ _ _ ?_]
              rintro rfl
              rcases hat with e | e
              · rw [e] at hg; have := (hold _ hg).2; simp at this
              · rw [e] at hg; simp at hg; omega)).rd
            have r_keys : Rd (w6.setCell ⟨w3.heap.size, 2, none⟩ (.slice a6 (vn' + 1) c6)) (.slice ka' kn kc') (sv p.keys) := (O3.out.keys.kept (fun g hg => by
              have hl := (O3.out.keys.blk g hg).2
              rw [Below.heap_setCell _ _ _ _ (by simp; omega), hkept g (by omega) (fun e => O3.out.fkv.symm g e hg), X6.out.block g hl])).rd
            have r_kids : Rd (w6.setCell ⟨w3.heap.size, 2, none⟩ (.slice a6 (vn' + 1) c6)) (.slice da' dn' dc') (iv p.kids) := (O3.out.kids.kept (fun g hg => by
              have hl := (O3.out.kids.blk g hg).2
              rw [Below.heap_setCell _ _ _ _ (by simp; omega), hkept g (by omega) (fun e => O3.out.fvd g e hg), X6.out.block g hl])).rd
            have QW : Hid (PgAt (w6.setCell ⟨w3.heap.size, 2, none⟩ (.slice a6 (vn' + 1) c6)) { p with vals := p.vals ++ [(⟨#[120]⟩ : ByteArray)] } (.slice ka' kn kc') (.slice a6 (vn' + 1) c6) (.slice da' dn' dc')) := ⟨r_keys, r_vals, r_kids⟩
            clear z0 z1 z2 z3 z4 z5 z6 z7 x0 x1 x2 x3 x4 x5 x6 x7 r_keys r_vals r_kids o6 hown hgrow hnil hat hold hkept hYw6 hrow ff5
            obtain ⟨z0, z1, z2, z3, z4, z5, z6, z7⟩ := hb6.cells
            obtain ⟨x0, x1, x2, x3, x4, x5, x6, x7⟩ := ha6.cells
            have ff := hb6.frozen 2
            clear ha6 hb6
            go_upto_region 32 with fail
            generalize w6.setCell ⟨w3.heap.size, 2, none⟩ (.slice a6 (vn' + 1) c6) = W6 at *
            clear z0 z1 z2 z3 z4 z5 z6 z7 x0 x1 x2 x3 x4 x5 x6 x7
            obtain ⟨z0, z1, z2, z3, z4, z5, z6, z7⟩ := BW.out.cells
            obtain ⟨x0, x1, x2, x3, x4, x5, x6, x7⟩ := AW.out.cells
            go_wp2_with fail
            refine (psame_any p { p with vals := p.vals ++ [(⟨#[120]⟩ : ByteArray)] } _ _ _ _ _ _ _ PW.out QW.out).mono ?_
            rintro e w7 ⟨rfl, y⟩
            have e1 : samePg p { p with vals := p.vals ++ [(⟨#[120]⟩ : ByteArray)] } = false := by rw [← Bool.not_eq_true, samePg_iff]; exact HNE.out
            have e2 : samePg { p with vals := p.vals ++ [(⟨#[120]⟩ : ByteArray)] } p = false := by rw [← Bool.not_eq_true, samePg_iff]; exact fun e => HNE.out e.symm
            rw [e1]
            have C1 : Hid (PBox w7 w.heap.size p (.slice ka kn kc) (.slice va vn vc) (.slice da dn dc)) := AW.out.below y
            have C2 : Hid (PBox w7 w3.heap.size { p with vals := p.vals ++ [(⟨#[120]⟩ : ByteArray)] } (.slice ka' kn kc') (.slice a6 (vn' + 1) c6) (.slice da' dn' dc')) := BW.out.below y
            have C3 : Hid (Below w.heap.size w w7) := ext_trans YW.out y
            have C4 : Hid (Calls Try.prog 22 #[pgv { p with vals := p.vals ++ [(⟨#[120]⟩ : ByteArray)] } (.slice ka' kn kc') (.slice a6 (vn' + 1) c6) (.slice da' dn' dc'), pgv p (.slice ka kn kc) (.slice va vn vc) (.slice da dn dc)] w7 fun e w' => e = .returned (.bool false) ∧ Below w7.heap.size w7 w') := by
              rw [← e2]
              exact psame_any { p with vals := p.vals ++ [(⟨#[120]⟩ : ByteArray)] } p _ _ _ _ _ _ _ (QW.out.below y) (PW.out.below y)
            unfold pgv at C4
            clear y z0 z1 z2 z3 z4 z5 z6 z7 x0 x1 x2 x3 x4 x5 x6 x7 e1 e2
            obtain ⟨z0, z1, z2, z3, z4, z5, z6, z7⟩ := C2.out.cells
            obtain ⟨x0, x1, x2, x3, x4, x5, x6, x7⟩ := C1.out.cells
            go_wp2_with fail
            refine C4.out.mono ?_
            rintro e w8 ⟨rfl, y⟩
            have C5 : Hid (Below w.heap.size w w8) := ext_trans C3.out y
            clear y z0 z1 z2 z3 z4 z5 z6 z7 x0 x1 x2 x3 x4 x5 x6 x7
            go_wp2
            go_ret
            exact ⟨rfl, C5.out⟩
          | false =>
            cases h3' : (X == 3) with
            | true =>
              have HNE : Hid (¬ p = { p with kids := p.kids ++ [(1 : Int)] }) := fun e => by
                have h := congrArg (fun x => x.kids.length) e
                simp at h
              have hrow : w5.ownsRow w2.heap.size 3 1 (.slice da' dn' dc') dn' (iv p.kids) := by
                have := O6.out.kids
                unfold OwnV at this
                rwa [iv_length, HDN.out] at this
              have HROW : Hid (_ = _) := HDN.out
              have h20 : dn' ≤ 20 := by
                have := HSM.out
                simp only [smallPg, Bool.and_eq_true, decide_eq_true_eq] at this
                have := HDN.out
                omega
              obtain ⟨i0, hi, hz0, hz1, hz2⟩ := info_parts infoI
              have hs5 : w2.heap.size ≤ w5.heap.size := Nat.le_trans hs23 X6.out.size
              have ff5 := B6.out.frozen 3
              go_wp2_with (at_builtin; refine wpList_append_own_at _ rfl _ _ 23 rfl w2.heap.size 3 i0 (.int .i64 0) 1 8 Try.underlying23 hi hz0 hz1 hz2 rfl (by decide) _ dn' (iv p.kids) rfl (World.ownsRow.alloc hrow _) ⟨w5.heap.size, 0, none⟩ 1 1 [.int .i64 1] rfl rfl (cell_one_new _ _ _) (by intro u hu; simp at hu; subst hu; rfl) (by unfold maxLen; omega) (by omega) (by simp; omega) ?_)
              intro v' w6 hown hgrow hnil hat
              have o6 : OwnV w6 w2.heap.size 3 v' (iv (p.kids ++ [(1 : Int)])) := by
                unfold OwnV
                rw [iv_length, List.length_append, HDN.out]
                simpa [iv] using hown
              obtain ⟨a6, c6, hv6⟩ : ∃ a c, v' = .slice a (dn' + 1) c := by
                obtain ⟨a, c, h⟩ := o6.rd.form
                rw [iv_length, List.length_append, HDN.out] at h
                exact ⟨a, c, h⟩
              subst hv6
              have hold : ∀ g, ((.slice da' dn' dc') : Value).ownBlock = some g → w2.heap.size ≤ g ∧ g < w3.heap.size := fun g hg => O3.out.kids.blk g hg
              have hkept : ∀ g, g < w5.heap.size → ((.slice da' dn' dc') : Value).ownBlock ≠ some g → w6.heap[g]? = w5.heap[g]? := fun g h1 h2 => grown_kept hgrow g h1 h2
              have h35 : w3.heap.size < w5.heap.size := Blk.lt B6.out
              have hYw6 : Below w.heap.size w w6 := (Y6.out.alloc Y6.out.size _).grown hgrow (by have := Y6.out.size; simp; omega) (fun k hk => by have := (hold k hk).1; omega)
              have YW : Hid (Below w.heap.size w (w6.setCell ⟨w3.heap.size, 3, none⟩ (.slice a6 (dn' + 1) c6))) := hYw6.setCell (Nat.le_of_lt hlt3) _
              have ha6 : PBox w6 w.heap.size p (.slice ka kn kc) (.slice va vn vc) (.slice da dn dc) := Blk.of A6.out (hkept _ (by omega) (fun e => by have := (hold _ e).1; omega))
              have hb6 : PBox w6 w3.heap.size p (.slice ka' kn kc') (.slice va' vn' vc') (.slice da' dn' dc') := Blk.of B6.out (hkept _ h35 (fun e => by have := (hold _ e).2; omega))
              have AW : Hid (PBox (w6.setCell ⟨w3.heap.size, 3, none⟩ (.slice a6 (dn' + 1) c6)) w.heap.size p (.slice ka kn kc) (.slice va vn vc) (.slice da dn dc)) := Blk.setOther ha6 3 _ (Nat.ne_of_lt hlt3)
              have BW : Hid (PBox (w6.setCell ⟨w3.heap.size, 3, none⟩ (.slice a6 (dn' + 1) c6)) w3.heap.size { p with kids := p.kids ++ [(1 : Int)] } (.slice ka' kn kc') (.slice va' vn' vc') (.slice a6 (dn' + 1) c6)) := Blk.set hb6 3 _
              have PW : Hid (PgAt (w6.setCell ⟨w3.heap.size, 3, none⟩ (.slice a6 (dn' + 1) c6)) p (.slice ka kn kc) (.slice va vn vc) (.slice da dn dc)) := HP.out.below YW.out
              have r_kids : Rd (w6.setCell ⟨w3.heap.size, 3, none⟩ (.slice a6 (dn' + 1) c6)) (.slice a6 (dn' + 1) c6) (iv (p.kids ++ [(1 : Int)])) := (o6.kept (fun g hg => by
                rw [Below.heap_setCell _ _ _ _ ?_]
                rintro rfl
                rcases hat with e | e
                · rw [e] at hg; have := (hold _ hg).2; simp at this
                · rw [e] at hg; simp at hg; omega)).rd
              have r_keys : Rd (w6.setCell ⟨w3.heap.size, 3, none⟩ (.slice a6 (dn' + 1) c6)) (.slice ka' kn kc') (sv p.keys) := (O3.out.keys.kept (fun g hg => by
                have hl := (O3.out.keys.blk g hg).2
                rw [Below.heap_setCell _ _ _ _ (by simp; omega), hkept g (by omega) (fun e => O3.out.fkd.symm g e hg), X6.out.block g hl])).rd
              have r_vals : Rd (w6.setCell ⟨w3.heap.size, 3, none⟩ (.slice a6 (dn' + 1) c6)) (.slice va' vn' vc') (sv p.vals) := (O3.out.vals.kept (fun g hg => by
                have hl := (O3.out.vals.blk g hg).2
                rw [Below.heap_setCell _ _ _ _ (by simp; omega), hkept g (by omega) (fun e => O3.out.fvd.symm g e hg), X6.out.block g hl])).rd
              have QW : Hid (PgAt (w6.setCell ⟨w3.heap.size, 3, none⟩ (.slice a6 (dn' + 1) c6)) { p with kids := p.kids ++ [(1 : Int)] } (.slice ka' kn kc') (.slice va' vn' vc') (.slice a6 (dn' + 1) c6)) := ⟨r_keys, r_vals, r_kids⟩
              clear z0 z1 z2 z3 z4 z5 z6 z7 x0 x1 x2 x3 x4 x5 x6 x7 r_keys r_vals r_kids o6 hown hgrow hnil hat hold hkept hYw6 hrow ff5
              obtain ⟨z0, z1, z2, z3, z4, z5, z6, z7⟩ := hb6.cells
              obtain ⟨x0, x1, x2, x3, x4, x5, x6, x7⟩ := ha6.cells
              have ff := hb6.frozen 3
              clear ha6 hb6
              go_upto_region 32 with fail
              generalize w6.setCell ⟨w3.heap.size, 3, none⟩ (.slice a6 (dn' + 1) c6) = W6 at *
              clear z0 z1 z2 z3 z4 z5 z6 z7 x0 x1 x2 x3 x4 x5 x6 x7
              obtain ⟨z0, z1, z2, z3, z4, z5, z6, z7⟩ := BW.out.cells
              obtain ⟨x0, x1, x2, x3, x4, x5, x6, x7⟩ := AW.out.cells
              go_wp2_with fail
              refine (psame_any p { p with kids := p.kids ++ [(1 : Int)] } _ _ _ _ _ _ _ PW.out QW.out).mono ?_
              rintro e w7 ⟨rfl, y⟩
              have e1 : samePg p { p with kids := p.kids ++ [(1 : Int)] } = false := by rw [← Bool.not_eq_true, samePg_iff]; exact HNE.out
              have e2 : samePg { p with kids := p.kids ++ [(1 : Int)] } p = false := by rw [← Bool.not_eq_true, samePg_iff]; exact fun e => HNE.out e.symm
              rw [e1]
              have C1 : Hid (PBox w7 w.heap.size p (.slice ka kn kc) (.slice va vn vc) (.slice da dn dc)) := AW.out.below y
              have C2 : Hid (PBox w7 w3.heap.size { p with kids := p.kids ++ [(1 : Int)] } (.slice ka' kn kc') (.slice va' vn' vc') (.slice a6 (dn' + 1) c6)) := BW.out.below y
              have C3 : Hid (Below w.heap.size w w7) := ext_trans YW.out y
              have C4 : Hid (Calls Try.prog 22 #[pgv { p with kids := p.kids ++ [(1 : Int)] } (.slice ka' kn kc') (.slice va' vn' vc') (.slice a6 (dn' + 1) c6), pgv p (.slice ka kn kc) (.slice va vn vc) (.slice da dn dc)] w7 fun e w' => e = .returned (.bool false) ∧ Below w7.heap.size w7 w') := by
                rw [← e2]
                exact psame_any { p with kids := p.kids ++ [(1 : Int)] } p _ _ _ _ _ _ _ (QW.out.below y) (PW.out.below y)
              unfold pgv at C4
              clear y z0 z1 z2 z3 z4 z5 z6 z7 x0 x1 x2 x3 x4 x5 x6 x7 e1 e2
              obtain ⟨z0, z1, z2, z3, z4, z5, z6, z7⟩ := C2.out.cells
              obtain ⟨x0, x1, x2, x3, x4, x5, x6, x7⟩ := C1.out.cells
              go_wp2_with fail
              refine C4.out.mono ?_
              rintro e w8 ⟨rfl, y⟩
              have C5 : Hid (Below w.heap.size w w8) := ext_trans C3.out y
              clear y z0 z1 z2 z3 z4 z5 z6 z7 x0 x1 x2 x3 x4 x5 x6 x7
              go_wp2
              go_ret
              exact ⟨rfl, C5.out⟩
            | false =>
              cases h4' : (X == 4) with
              | true =>
                have HNE : Hid (¬ p = { p with root := wrap64 (p.root + 1) }) := fun e => by
                  have h := congrArg Pg.root e
                  exact wrap_ne h
                have YW : Hid (Below w.heap.size w (w5.setCell ⟨w3.heap.size, 4, none⟩ (.int .i64 (wrap64 (p.root + 1))))) := Y6.out.setCell (Nat.le_of_lt hlt3) _
                have AW : Hid (PBox (w5.setCell ⟨w3.heap.size, 4, none⟩ (.int .i64 (wrap64 (p.root + 1)))) w.heap.size p (.slice ka kn kc) (.slice va vn vc) (.slice da dn dc)) := Blk.setOther A6.out 4 _ (Nat.ne_of_lt hlt3)
                have BW : Hid (PBox (w5.setCell ⟨w3.heap.size, 4, none⟩ (.int .i64 (wrap64 (p.root + 1)))) w3.heap.size { p with root := wrap64 (p.root + 1) } (.slice ka' kn kc') (.slice va' vn' vc') (.slice da' dn' dc')) := Blk.set B6.out 4 _
                have PW : Hid (PgAt (w5.setCell ⟨w3.heap.size, 4, none⟩ (.int .i64 (wrap64 (p.root + 1)))) p (.slice ka kn kc) (.slice va vn vc) (.slice da dn dc)) := HP.out.below YW.out
                have qw0 : PgAt (w5.setCell ⟨w3.heap.size, 4, none⟩ (.int .i64 (wrap64 (p.root + 1)))) p (.slice ka' kn kc') (.slice va' vn' vc') (.slice da' dn' dc') := O3.out.at.below (X6.out.setCell (p := ⟨w3.heap.size, 4, none⟩) (Nat.le_refl _) _)
                have QW : Hid (PgAt (w5.setCell ⟨w3.heap.size, 4, none⟩ (.int .i64 (wrap64 (p.root + 1)))) { p with root := wrap64 (p.root + 1) } (.slice ka' kn kc') (.slice va' vn' vc') (.slice da' dn' dc')) := ⟨qw0.keys, qw0.vals, qw0.kids⟩
                have ff := B6.out.frozen 4
                clear qw0
                go_upto_region 32 with fail
                generalize w5.setCell ⟨w3.heap.size, 4, none⟩ (.int .i64 (wrap64 (p.root + 1))) = W6 at *
                clear z0 z1 z2 z3 z4 z5 z6 z7 x0 x1 x2 x3 x4 x5 x6 x7
                obtain ⟨z0, z1, z2, z3, z4, z5, z6, z7⟩ := BW.out.cells
                obtain ⟨x0, x1, x2, x3, x4, x5, x6, x7⟩ := AW.out.cells
                go_wp2_with fail
                refine (psame_any p { p with root := wrap64 (p.root + 1) } _ _ _ _ _ _ _ PW.out QW.out).mono ?_
                rintro e w7 ⟨rfl, y⟩
                have e1 : samePg p { p with root := wrap64 (p.root + 1) } = false := by rw [← Bool.not_eq_true, samePg_iff]; exact HNE.out
                have e2 : samePg { p with root := wrap64 (p.root + 1) } p = false := by rw [← Bool.not_eq_true, samePg_iff]; exact fun e => HNE.out e.symm
                rw [e1]
                have C1 : Hid (PBox w7 w.heap.size p (.slice ka kn kc) (.slice va vn vc) (.slice da dn dc)) := AW.out.below y
                have C2 : Hid (PBox w7 w3.heap.size { p with root := wrap64 (p.root + 1) } (.slice ka' kn kc') (.slice va' vn' vc') (.slice da' dn' dc')) := BW.out.below y
                have C3 : Hid (Below w.heap.size w w7) := ext_trans YW.out y
                have C4 : Hid (Calls Try.prog 22 #[pgv { p with root := wrap64 (p.root + 1) } (.slice ka' kn kc') (.slice va' vn' vc') (.slice da' dn' dc'), pgv p (.slice ka kn kc) (.slice va vn vc) (.slice da dn dc)] w7 fun e w' => e = .returned (.bool false) ∧ Below w7.heap.size w7 w') := by
                  rw [← e2]
                  exact psame_any { p with root := wrap64 (p.root + 1) } p _ _ _ _ _ _ _ (QW.out.below y) (PW.out.below y)
                unfold pgv at C4
                clear y z0 z1 z2 z3 z4 z5 z6 z7 x0 x1 x2 x3 x4 x5 x6 x7 e1 e2
                obtain ⟨z0, z1, z2, z3, z4, z5, z6, z7⟩ := C2.out.cells
                obtain ⟨x0, x1, x2, x3, x4, x5, x6, x7⟩ := C1.out.cells
                go_wp2_with fail
                refine C4.out.mono ?_
                rintro e w8 ⟨rfl, y⟩
                have C5 : Hid (Below w.heap.size w w8) := ext_trans C3.out y
                clear y z0 z1 z2 z3 z4 z5 z6 z7 x0 x1 x2 x3 x4 x5 x6 x7
                go_wp2
                go_ret
                exact ⟨rfl, C5.out⟩
              | false =>
                cases h5' : (X == 5) with
                | true =>
                  have HNE : Hid (¬ p = { p with next := wrap64 (p.next + 1) }) := fun e => by
                    have h := congrArg Pg.next e
                    exact wrap_ne h
                  have YW : Hid (Below w.heap.size w (w5.setCell ⟨w3.heap.size, 5, none⟩ (.int .i64 (wrap64 (p.next + 1))))) := Y6.out.setCell (Nat.le_of_lt hlt3) _
                  have AW : Hid (PBox (w5.setCell ⟨w3.heap.size, 5, none⟩ (.int .i64 (wrap64 (p.next + 1)))) w.heap.size p (.slice ka kn kc) (.slice va vn vc) (.slice da dn dc)) := Blk.setOther A6.out 5 _ (Nat.ne_of_lt hlt3)
                  have BW : Hid (PBox (w5.setCell ⟨w3.heap.size, 5, none⟩ (.int .i64 (wrap64 (p.next + 1)))) w3.heap.size { p with next := wrap64 (p.next + 1) } (.slice ka' kn kc') (.slice va' vn' vc') (.slice da' dn' dc')) := Blk.set B6.out 5 _
                  have PW : Hid (PgAt (w5.setCell ⟨w3.heap.size, 5, none⟩ (.int .i64 (wrap64 (p.next + 1)))) p (.slice ka kn kc) (.slice va vn vc) (.slice da dn dc)) := HP.out.below YW.out
                  have qw0 : PgAt (w5.setCell ⟨w3.heap.size, 5, none⟩ (.int .i64 (wrap64 (p.next + 1)))) p (.slice ka' kn kc') (.slice va' vn' vc') (.slice da' dn' dc') := O3.out.at.below (X6.out.setCell (p := ⟨w3.heap.size, 5, none⟩) (Nat.le_refl _) _)
                  have QW : Hid (PgAt (w5.setCell ⟨w3.heap.size, 5, none⟩ (.int .i64 (wrap64 (p.next + 1)))) { p with next := wrap64 (p.next + 1) } (.slice ka' kn kc') (.slice va' vn' vc') (.slice da' dn' dc')) := ⟨qw0.keys, qw0.vals, qw0.kids⟩
                  have ff := B6.out.frozen 5
                  clear qw0
                  go_upto_region 32 with fail
                  generalize w5.setCell ⟨w3.heap.size, 5, none⟩ (.int .i64 (wrap64 (p.next + 1))) = W6 at *
                  clear z0 z1 z2 z3 z4 z5 z6 z7 x0 x1 x2 x3 x4 x5 x6 x7
                  obtain ⟨z0, z1, z2, z3, z4, z5, z6, z7⟩ := BW.out.cells
                  obtain ⟨x0, x1, x2, x3, x4, x5, x6, x7⟩ := AW.out.cells
                  go_wp2_with fail
                  refine (psame_any p { p with next := wrap64 (p.next + 1) } _ _ _ _ _ _ _ PW.out QW.out).mono ?_
                  rintro e w7 ⟨rfl, y⟩
                  have e1 : samePg p { p with next := wrap64 (p.next + 1) } = false := by rw [← Bool.not_eq_true, samePg_iff]; exact HNE.out
                  have e2 : samePg { p with next := wrap64 (p.next + 1) } p = false := by rw [← Bool.not_eq_true, samePg_iff]; exact fun e => HNE.out e.symm
                  rw [e1]
                  have C1 : Hid (PBox w7 w.heap.size p (.slice ka kn kc) (.slice va vn vc) (.slice da dn dc)) := AW.out.below y
                  have C2 : Hid (PBox w7 w3.heap.size { p with next := wrap64 (p.next + 1) } (.slice ka' kn kc') (.slice va' vn' vc') (.slice da' dn' dc')) := BW.out.below y
                  have C3 : Hid (Below w.heap.size w w7) := ext_trans YW.out y
                  have C4 : Hid (Calls Try.prog 22 #[pgv { p with next := wrap64 (p.next + 1) } (.slice ka' kn kc') (.slice va' vn' vc') (.slice da' dn' dc'), pgv p (.slice ka kn kc) (.slice va vn vc) (.slice da dn dc)] w7 fun e w' => e = .returned (.bool false) ∧ Below w7.heap.size w7 w') := by
                    rw [← e2]
                    exact psame_any { p with next := wrap64 (p.next + 1) } p _ _ _ _ _ _ _ (QW.out.below y) (PW.out.below y)
                  unfold pgv at C4
                  clear y z0 z1 z2 z3 z4 z5 z6 z7 x0 x1 x2 x3 x4 x5 x6 x7 e1 e2
                  obtain ⟨z0, z1, z2, z3, z4, z5, z6, z7⟩ := C2.out.cells
                  obtain ⟨x0, x1, x2, x3, x4, x5, x6, x7⟩ := C1.out.cells
                  go_wp2_with fail
                  refine C4.out.mono ?_
                  rintro e w8 ⟨rfl, y⟩
                  have C5 : Hid (Below w.heap.size w w8) := ext_trans C3.out y
                  clear y z0 z1 z2 z3 z4 z5 z6 z7 x0 x1 x2 x3 x4 x5 x6 x7
                  go_wp2
                  go_ret
                  exact ⟨rfl, C5.out⟩
                | false =>
                  cases h6' : (X == 6) with
                  | true =>
                    have HNE : Hid (¬ p = { p with size := wrap64 (p.size + 1) }) := fun e => by
                      have h := congrArg Pg.size e
                      exact wrap_ne h
                    have YW : Hid (Below w.heap.size w (w5.setCell ⟨w3.heap.size, 6, none⟩ (.int .i64 (wrap64 (p.size + 1))))) := Y6.out.setCell (Nat.le_of_lt hlt3) _
                    have AW : Hid (PBox (w5.setCell ⟨w3.heap.size, 6, none⟩ (.int .i64 (wrap64 (p.size + 1)))) w.heap.size p (.slice ka kn kc) (.slice va vn vc) (.slice da dn dc)) := Blk.setOther A6.out 6 _ (Nat.ne_of_lt hlt3)
                    have BW : Hid (PBox (w5.setCell ⟨w3.heap.size, 6, none⟩ (.int .i64 (wrap64 (p.size + 1)))) w3.heap.size { p with size := wrap64 (p.size + 1) } (.slice ka' kn kc') (.slice va' vn' vc') (.slice da' dn' dc')) := Blk.set B6.out 6 _
                    have PW : Hid (PgAt (w5.setCell ⟨w3.heap.size, 6, none⟩ (.int .i64 (wrap64 (p.size + 1)))) p (.slice ka kn kc) (.slice va vn vc) (.slice da dn dc)) := HP.out.below YW.out
                    have qw0 : PgAt (w5.setCell ⟨w3.heap.size, 6, none⟩ (.int .i64 (wrap64 (p.size + 1)))) p (.slice ka' kn kc') (.slice va' vn' vc') (.slice da' dn' dc') := O3.out.at.below (X6.out.setCell (p := ⟨w3.heap.size, 6, none⟩) (Nat.le_refl _) _)
                    have QW : Hid (PgAt (w5.setCell ⟨w3.heap.size, 6, none⟩ (.int .i64 (wrap64 (p.size + 1)))) { p with size := wrap64 (p.size + 1) } (.slice ka' kn kc') (.slice va' vn' vc') (.slice da' dn' dc')) := ⟨qw0.keys, qw0.vals, qw0.kids⟩
                    have ff := B6.out.frozen 6
                    clear qw0
                    go_upto_region 32 with fail
                    generalize w5.setCell ⟨w3.heap.size, 6, none⟩ (.int .i64 (wrap64 (p.size + 1))) = W6 at *
                    clear z0 z1 z2 z3 z4 z5 z6 z7 x0 x1 x2 x3 x4 x5 x6 x7
                    obtain ⟨z0, z1, z2, z3, z4, z5, z6, z7⟩ := BW.out.cells
                    obtain ⟨x0, x1, x2, x3, x4, x5, x6, x7⟩ := AW.out.cells
                    go_wp2_with fail
                    refine (psame_any p { p with size := wrap64 (p.size + 1) } _ _ _ _ _ _ _ PW.out QW.out).mono ?_
                    rintro e w7 ⟨rfl, y⟩
                    have e1 : samePg p { p with size := wrap64 (p.size + 1) } = false := by rw [← Bool.not_eq_true, samePg_iff]; exact HNE.out
                    have e2 : samePg { p with size := wrap64 (p.size + 1) } p = false := by rw [← Bool.not_eq_true, samePg_iff]; exact fun e => HNE.out e.symm
                    rw [e1]
                    have C1 : Hid (PBox w7 w.heap.size p (.slice ka kn kc) (.slice va vn vc) (.slice da dn dc)) := AW.out.below y
                    have C2 : Hid (PBox w7 w3.heap.size { p with size := wrap64 (p.size + 1) } (.slice ka' kn kc') (.slice va' vn' vc') (.slice da' dn' dc')) := BW.out.below y
                    have C3 : Hid (Below w.heap.size w w7) := ext_trans YW.out y
                    have C4 : Hid (Calls Try.prog 22 #[pgv { p with size := wrap64 (p.size + 1) } (.slice ka' kn kc') (.slice va' vn' vc') (.slice da' dn' dc'), pgv p (.slice ka kn kc) (.slice va vn vc) (.slice da dn dc)] w7 fun e w' => e = .returned (.bool false) ∧ Below w7.heap.size w7 w') := by
                      rw [← e2]
                      exact psame_any { p with size := wrap64 (p.size + 1) } p _ _ _ _ _ _ _ (QW.out.below y) (PW.out.below y)
                    unfold pgv at C4
                    clear y z0 z1 z2 z3 z4 z5 z6 z7 x0 x1 x2 x3 x4 x5 x6 x7 e1 e2
                    obtain ⟨z0, z1, z2, z3, z4, z5, z6, z7⟩ := C2.out.cells
                    obtain ⟨x0, x1, x2, x3, x4, x5, x6, x7⟩ := C1.out.cells
                    go_wp2_with fail
                    refine C4.out.mono ?_
                    rintro e w8 ⟨rfl, y⟩
                    have C5 : Hid (Below w.heap.size w w8) := ext_trans C3.out y
                    clear y z0 z1 z2 z3 z4 z5 z6 z7 x0 x1 x2 x3 x4 x5 x6 x7
                    go_wp2
                    go_ret
                    exact ⟨rfl, C5.out⟩
                  | false =>
                    rcases Nat.lt_or_ge A kn with hAk | hAk
                    · have hkn0 : 0 < kn := by omega
                      have hknb : ((kn : Int) == 0) = false := by rw [beq_eq_false_iff_ne]; omega
                      have hAk' : ¬ kn ≤ A := by omega
                      have hAk2 : ¬ (kn : Int) ≤ (A : Int) := by omega
                      have hAl : A < p.keys.length := by have := HKN.out; omega
                      obtain ⟨g, hg⟩ : ∃ g, ka' = some ⟨g, 0, none⟩ := by
                        rcases O6.out.keys.2 with ⟨h, hl⟩ | ⟨g, cap, cur, h, _⟩
                        · rw [sv_length] at hl; omega
                        · simp only [Value.slice.injEq] at h; exact ⟨g, h.1⟩
                      subst hg
                      have ha := HP.out.keys.at.2.2.2
                      obtain ⟨ad, had⟩ := ha.ad (by rw [sv_length]; omega)
                      subst had
                      have y0 := ha.str rfl hAl
                      have y1 : w5.cell? (ad.add A) = some (.string p.keys[A]) := (Below.cell Y6.out (cell_lt y0)).trans y0
                      have hrow : w5.ownsRow w2.heap.size 9 1 (.slice (some ⟨g, 0, none⟩) kn kc') kn (sv p.keys) := by
                        have := O6.out.keys
                        unfold OwnV at this
                        rwa [sv_length, HKN.out] at this
                      have y2 : w5.cell? ⟨g, A, none⟩ = some (.string p.keys[A]) := by rw [hrow.cellAt A (by omega)]; simp [sv, hAl]
                      have y3 := hrow.frozenAt A
                      have hst := hrow.stored A (.string (p.keys[A] ++ ⟨#[120]⟩))
                      have hg2 := hrow.lt g rfl
                      have hg3 := (O3.out.keys.blk g rfl).2
                      have hsb : ¬ 9223372036854775807 < p.keys[A].size + 1 := by have := HZ.out p.keys[A] (List.getElem_mem _); omega
                      have HNE : Hid (¬ p = { p with keys := p.keys.set A (p.keys[A] ++ ⟨#[120]⟩) }) := fun e => by
                        have h := congrArg Pg.keys e
                        have h1 := congrArg (fun l => l[A]?) h
                        simp [hAl] at h1
                        exact add_x_ne _ h1
                      have QK : Hid (Rd (w5.setCell ⟨g, A, none⟩ (.string (p.keys[A] ++ ⟨#[120]⟩))) (.slice (some ⟨g, 0, none⟩) kn kc') (sv (p.keys.set A (p.keys[A] ++ ⟨#[120]⟩)))) := by
                        have h := hst.1
                        have h2 : (sv p.keys).set A (.string (p.keys[A] ++ ⟨#[120]⟩)) = sv (p.keys.set A (p.keys[A] ++ ⟨#[120]⟩)) := by simp [sv, List.map_set]
                        rw [h2] at h
                        refine OwnV.rd (w := w5.setCell ⟨g, A, none⟩ (.string (p.keys[A] ++ ⟨#[120]⟩))) (B := w2.heap.size) (T := 9) ?_
                        unfold OwnV
                        rw [sv_length, List.length_set, HKN.out]
                        exact h
                      have YW : Hid (Below w.heap.size w (w5.setCell ⟨g, A, none⟩ (.string (p.keys[A] ++ ⟨#[120]⟩)))) := Y6.out.setCell (by show w.heap.size ≤ g; omega) _
                      have AW : Hid (PBox (w5.setCell ⟨g, A, none⟩ (.string (p.keys[A] ++ ⟨#[120]⟩))) w.heap.size p (.slice (some ad) kn kc) (.slice va vn vc) (.slice da dn dc)) := Blk.setOther A6.out A _ (by omega)
                      have BW : Hid (PBox (w5.setCell ⟨g, A, none⟩ (.string (p.keys[A] ++ ⟨#[120]⟩))) w3.heap.size p (.slice (some ⟨g, 0, none⟩) kn kc') (.slice va' vn' vc') (.slice da' dn' dc')) := Blk.setOther B6.out A _ (by omega)
                      have r_vals : Rd (w5.setCell ⟨g, A, none⟩ (.string (p.keys[A] ++ ⟨#[120]⟩))) (.slice va' vn' vc') (sv p.vals) := (O3.out.vals.kept (fun k hk => by
                        have hl := (O3.out.vals.blk k hk).2
                        have hf : k ≠ g := fun e => by subst e; exact O3.out.fkv _ rfl hk
                        rw [Below.heap_setCell _ _ _ _ (by exact hf), X6.out.block k hl])).rd
                      have r_kids : Rd (w5.setCell ⟨g, A, none⟩ (.string (p.keys[A] ++ ⟨#[120]⟩))) (.slice da' dn' dc') (iv p.kids) := (O3.out.kids.kept (fun k hk => by
                        have hl := (O3.out.kids.blk k hk).2
                        have hf : k ≠ g := fun e => by subst e; exact O3.out.fkd _ rfl hk
                        rw [Below.heap_setCell _ _ _ _ (by exact hf), X6.out.block k hl])).rd
                      have PW : Hid (PgAt (w5.setCell ⟨g, A, none⟩ (.string (p.keys[A] ++ ⟨#[120]⟩))) p (.slice (some ad) kn kc) (.slice va vn vc) (.slice da dn dc)) := HP.out.below YW.out
                      have QW : Hid (PgAt (w5.setCell ⟨g, A, none⟩ (.string (p.keys[A] ++ ⟨#[120]⟩))) { p with keys := p.keys.set A (p.keys[A] ++ ⟨#[120]⟩) } (.slice (some ⟨g, 0, none⟩) kn kc') (.slice va' vn' vc') (.slice da' dn' dc')) := ⟨QK.out, r_vals, r_kids⟩
                      have YS : Hid ((w5.setCell ⟨g, A, none⟩ (.string (p.keys[A] ++ ⟨#[120]⟩))).cell? (ad.add A) = some (.string p.keys[A])) := (Below.cell YW.out (cell_lt y0)).trans y0
                      clear r_vals r_kids hst hrow ha QK hg2 hg3
                      generalize p.keys[A] = s at *
                      go_upto_region 17 with fail
                      generalize w5.setCell ⟨g, A, none⟩ (.string (s ++ ⟨#[120]⟩)) = W6 at *
                      clear z0 z1 z2 z3 z4 z5 z6 z7 x0 x1 x2 x3 x4 x5 x6 x7 y1 y2 y3
                      have y1 := YS.out
                      obtain ⟨z0, z1, z2, z3, z4, z5, z6, z7⟩ := BW.out.cells
                      obtain ⟨x0, x1, x2, x3, x4, x5, x6, x7⟩ := AW.out.cells
                      have e1 : samePg p { p with keys := p.keys.set A (s ++ ⟨#[120]⟩) } = false := by rw [← Bool.not_eq_true, samePg_iff]; exact HNE.out
                      have hss : (s.toList == s.toList) = true := by simp
                      have HC : Hid (Calls Try.prog 22 #[pgv p (.slice (some ad) kn kc) (.slice va vn vc) (.slice da dn dc), pgv { p with keys := p.keys.set A (s ++ ⟨#[120]⟩) } (.slice (some ⟨g, 0, none⟩) kn kc') (.slice va' vn' vc') (.slice da' dn' dc')] W6 fun e w' => e = .returned (.bool false) ∧ Below W6.heap.size W6 w') := by
                        rw [← e1]
                        exact psame_any p _ _ _ _ _ _ _ _ PW.out QW.out
                      unfold pgv at HC
                      clear e1 QW PW HNE
                      go_wp2_with fail
                      refine HC.out.mono ?_
                      rintro e w8 ⟨rfl, y⟩
                      have C5 : Hid (Below w.heap.size w w8) := ext_trans YW.out y
                      clear y z0 z1 z2 z3 z4 z5 z6 z7 x0 x1 x2 x3 x4 x5 x6 x7 y1
                      go_wp2
                      go_ret
                      exact ⟨rfl, C5.out⟩
                    · rcases Nat.eq_zero_or_pos kn with hk0 | hk0
                      · go_wp2
                        go_ret
                        exact ⟨rfl, Y6.out⟩
                      · go_wp2
                        go_ret
                        exact ⟨rfl, Y6.out⟩
end Go.Proofs.Ytcmhhigkhenllaa

/- DueRuns: rounds of the law's loop: Set. Own lemmas, no statement. -/
import Derived.Test.YtgoejoiomjmfaaaRunsH
namespace Go.Proofs.Ytgoejoiomjmfaaa
open Go.ChangeShapes Go.WideShapes Go.ChangeAt Go.RowKit

theorem wpList_appE {w w' : World} {ops : Array Oper} {rest : List Oper} {o : Oper} {a : Act} {Q : Exit → Act → World → Prop} (hg : o.guard = none) (s x : Operand) (hop : o.op = .call { callee := .builtin .append, args := #[s, x], argTypes := #[26, 26] }) (v vx v' : Value) (hs : a.eval s = v) (hx : a.eval x = vx)
    (hrun : (Builtin.append_ #[26, 26] o.type #[v, vx]).run Try.prog w = .ok v' w') (hK : wpList Try.prog ops Q rest (a.put o.dst v') w') : wpList Try.prog ops Q (o :: rest) a w := by
  refine wpList_plain hg fun K' hK' => ?_
  unfold Oper.wp
  simp [execOp, hop, resolve, invoke, builtin, hs, hx, hrun, Result.andThen]
  exact hK' _ _ hK
theorem exec_append {ρ : Operand → Value} {o : Oper} {w w' : World} {s x : Operand} {t : TypeId} {v vx v' : Value} (ho : o.op = .call { callee := .builtin .append, args := #[s, x], argTypes := #[t, t] }) (hs : ρ s = v) (hx : ρ x = vx) (hr : (Builtin.append_ #[t, t] o.type #[v, vx]).run Try.prog w = .ok v' w') : (execOp ρ o).run Try.prog w = .ok (.value v') w' := by
  unfold execOp
  simp only [ho, resolve, invoke, builtin, Sem.run_bind, Sem.run_pure, Result.andThen_ok, List.map_toArray, List.map_cons, List.map_nil, hs, hx, hr]
theorem exec_build0 {ρ : Operand → Value} {o : Oper} {w : World} (ho : o.op = .buildSlice 26 0 #[]) : (execOp ρ o).run Try.prog w = .ok (.value (.slice (some ⟨w.heap.size, 0, none⟩) 0 0)) (w.alloc (.cells #[] 34)) := by
  unfold execOp
  rw [ho]
  go_simp
theorem Found.none_T {T : Key → Option Int} {l : List Ent} {q : Key} (ht : Tab T l) (h : ∀ (i : Nat) (e : Ent), i < l.length → l[i]? = some e → e.key ≠ q) : T q = none := ht.none (fun i e he => h i e (List.getElem?_eq_some_iff.1 he).1 he)
/-- One more, in memory. -/
theorem AftAt.snoc {w : World} {B : Nat} {w2 : World} {g N : Nat} {T : Key → Option Int} {x : Addr} {cap : Nat} {l : List Ent} {bo : Nat} {o : OpE} (h : AftAt w B w2 g N (l.length + 1) T x cap l bo o) (e : Ent) (ht : Tab T (l ++ [e])) (hl : l.length ≤ 100) (ty : TypeId) :
    ∃ x' cap' w', (Builtin.append_ #[26, 26] ty #[.slice (some x) l.length cap, .slice (some ⟨w2.heap.size, 0, none⟩) 1 1]).run Try.prog (w2.alloc (.cells #[.int .i64 e.at_, .int .i64 e.kind, .int .u64 e.num, .int .i64 e.node] 34)) = .ok (.slice (some x') (l.length + 1) cap') w' ∧ RunsAt w B w' g N x' cap' (l ++ [e]) T := by
  have hb : Below w2.heap.size w2 (w2.alloc (.cells #[.int .i64 e.at_, .int .i64 e.kind, .int .u64 e.num, .int .i64 e.node] 34)) := (Below.refl _ _).alloc (Nat.le_refl _) _
  have h2 := h.below hb
  obtain ⟨x', cap', w', a1, a2, a3, a4⟩ := h2.r.append (y := ⟨w2.heap.size, 0, none⟩) (c := 1) (m := [e]) (fun j u hu => by
    rw [Addr.add_mid, Nat.zero_add, (Blk.new w2 _ _).cell, List.getElem?_toArray]
    rw [show cE [e] = [Value.int .i64 e.at_, .int .i64 e.kind, .int .u64 e.num, .int .i64 e.node] from rfl] at hu
    exact hu) h2.size (by simp; omega) ty
  have hlen : (l ++ [e]).length = l.length + 1 := by simp
  rw [hlen] at a1
  rw [← hlen] at h2
  exact ⟨x', cap', w', a1, h2.done ht a3 a2⟩
set_option maxRecDepth 100000 in
set_option maxHeartbeats 8000000 in
theorem run_set (w0 : World) (B : Nat) (x0 : Addr) (no co g k : Nat) (hk : k < no) (hk2 : k < 60) (T : Nat → Value) (x : Addr) (cap : Nat) (l : List Ent) (Tb : Key → Option Int) (wx : World) (Q : Exit → Act → World → Prop) (o : OpE) (hop0 : OpAt w0 x0 k o) (hR : RunsAt w0 B wx g k x cap l Tb) (hlk : l.length ≤ k) (h0 : o.k = 0) :
    Code.wp Try.prog (bodyOf Try.f3) (Exit.then (fun a' w' => RI w0 B (some x0) no co g a' w' ∧ Rmu a' w' < 60 - k) Q) ⟨fr T (.slice (some x0) no co) (.bool false) (.pointer (some ⟨g, 0, none⟩)) (.slice (some x) l.length cap) (.int .i64 (k : Int)), []⟩ wx := by
  have hd1 : decide ((k : Int) < (no : Int)) = true := decide_eq_true (by omega)
  have hd2 : decide ((k : Int) < 60) = true := decide_eq_true (by omega)
  have hop := hop0.below hR.bel
  have e0 : wx.cell? (x0.add (k * 5)) = some (.int .i64 o.k) := hop.c0
  have e1 : wx.cell? ⟨(x0.add (k * 5)).block, (x0.add (k * 5)).off + 1, none⟩ = some (.int .i64 o.e.kind) := cell_on (by omega) hop.c1
  have e2 : wx.cell? ⟨(x0.add (k * 5)).block, (x0.add (k * 5)).off + 2, none⟩ = some (.int .u64 o.e.num) := cell_on (by omega) hop.c2
  have e3 : wx.cell? ⟨(x0.add (k * 5)).block, (x0.add (k * 5)).off + 3, none⟩ = some (.int .i64 o.e.node) := cell_on (by omega) hop.c3
  have e4 : wx.cell? ⟨(x0.add (k * 5)).block, (x0.add (k * 5)).off + 4, none⟩ = some (.int .i64 o.e.at_) := cell_on (by omega) hop.c4
  have HOP : Hid (OpAt w0 x0 k o) := hop0
  have hbeL : Below wx.heap.size wx (wx.alloc (.cells #[.int .i64 o.k, .int .i64 o.e.kind, .int .u64 o.e.num, .int .i64 o.e.node, .int .i64 o.e.at_] 31)) := (Below.refl _ _).alloc (Nat.le_refl _) _
  have HR1 : Hid (RunsAt w0 B (wx.alloc (.cells #[.int .i64 o.k, .int .i64 o.e.kind, .int .u64 o.e.num, .int .i64 o.e.node, .int .i64 o.e.at_] 31)) g k x cap l Tb) := hR.below hbeL
  have HL1 : Hid (Blk (wx.alloc (.cells #[.int .i64 o.k, .int .i64 o.e.kind, .int .u64 o.e.num, .int .i64 o.e.node, .int .i64 o.e.at_] 31)) wx.heap.size (oC o) 31) := Blk.new wx _ _
  have hlen64 : (l.length : Int) ≤ 9223372036854775807 := by omega
  clear hop hop0 hR hbeL
  have q0 : (o.k == 0) = true := by rw [h0]; rfl
  clear h0
  unfold fr
  conv => arg 2; whnf
  go_wp2_with fail
  refine wp_loop (FI (wx.alloc (.cells #[.int .i64 o.k, .int .i64 o.e.kind, .int .u64 o.e.num, .int .i64 o.e.node, .int .i64 o.e.at_] 31)) (.slice (some x0) no co) (.pointer (some ⟨g, 0, none⟩)) (.slice (some x) l.length cap) (.int .i64 (k : Int)) (.pointer (some ⟨wx.heap.size, 0, none⟩)) (.slice (some x) l.length cap) (.int .i64 (l.length : Int)) l o.e.key) (Fmu l.length) ?_ ?_
  · exact ⟨0, -1, ⟨rfl, rfl, rfl, rfl, rfl, rfl, rfl, rfl, rfl, rfl, rfl, rfl⟩, by omega, Found.start _ _, Below.refl _ _⟩
  · clear e0 e1 e2 e3 e4
    rintro a wz ⟨j, at_, hsl, hj, hF, hb⟩
    have hmu : Fmu l.length a wz = l.length - j := by unfold Fmu; rw [hsl.2.2.2.2.2.2.2.2.2.2.2]; simp [intOf]
    rw [hmu]
    have hlit := hsl.lit
    generalize (fun i => a.tmps.getD i undef) = T2 at hlit
    subst hlit
    clear hsl hmu
    by_cases hlt : j < l.length
    · exact find_round (wx.alloc (.cells #[.int .i64 o.k, .int .i64 o.e.kind, .int .u64 o.e.num, .int .i64 o.e.node, .int .i64 o.e.at_] 31)) B (.slice (some x0) no co) (.pointer (some ⟨g, 0, none⟩)) (.int .i64 (k : Int)) x cap l wx.heap.size o T2 j at_ wz _ HR1.out.r HL1.out hlt hF hb
    · obtain rfl : j = l.length := by omega
      have hd3 : decide ((l.length : Int) < (l.length : Int)) = false := decide_eq_false (by omega)
      have HZ : Hid (AftAt w0 B wz g k l.length Tb x cap l wx.heap.size o) := (HR1.out.aft HL1.out).below hb
      have HTab : Hid (Tab Tb l) := HR1.out.t
      have HF : Hid (Found l o.e.key l.length at_) := hF
      have c0 : wz.cell? ⟨wx.heap.size, 0, none⟩ = some (.int .i64 o.k) := HZ.out.bo.cell 0
      have c1 : wz.cell? ⟨wx.heap.size, 1, none⟩ = some (.int .i64 o.e.kind) := HZ.out.bo.cell 1
      have c2 : wz.cell? ⟨wx.heap.size, 2, none⟩ = some (.int .u64 o.e.num) := HZ.out.bo.cell 2
      have c3 : wz.cell? ⟨wx.heap.size, 3, none⟩ = some (.int .i64 o.e.node) := HZ.out.bo.cell 3
      have c4 : wz.cell? ⟨wx.heap.size, 4, none⟩ = some (.int .i64 o.e.at_) := HZ.out.bo.cell 4
      clear hb hF hj hlt HR1 HL1
      generalize wx.heap.size = bo at *
      unfold frF
      have HS : Hid (Calls _ _ _ _ _) := aft_set HZ.out o.e HOP.out.wk (by omega) (by omega)
      unfold iptr at *
      rcases HF.out with ⟨ha, hno⟩ | ⟨i, e, hi, ha, he, hke⟩
      · subst ha
        have hTn : Tb o.e.key = none := Found.none_T HTab.out hno
        have HT2 : Hid (Tab (putT Tb o.e.key o.e.at_) (l ++ [o.e])) := HTab.out.snoc ⟨HOP.out.wa, HOP.out.wk⟩ (fun i e he => hno i e (List.getElem?_eq_some_iff.1 he).1 he)
        rw [hTn] at HS
        have HS2 : Hid (Calls _ _ _ _ _) := HS.out
        clear hno hTn HS HF HTab
        go_wp2_with fail
        refine Calls.mono HS2.out ?_
        rintro r w2 ⟨rfl, hA⟩
        have HA : Hid (AftAt w0 B w2 g (k + 1) (l.length + 1) (putT Tb o.e.key o.e.at_) x cap l bo o) := hA
        clear hA HS2 HZ c0 c1 c2 c3 c4
        have c1 : w2.cell? ⟨bo, 1, none⟩ = some (.int .i64 o.e.kind) := HA.out.bo.cell 1
        have c2 : w2.cell? ⟨bo, 2, none⟩ = some (.int .u64 o.e.num) := HA.out.bo.cell 2
        have c3 : w2.cell? ⟨bo, 3, none⟩ = some (.int .i64 o.e.node) := HA.out.bo.cell 3
        have c4 : w2.cell? ⟨bo, 4, none⟩ = some (.int .i64 o.e.at_) := HA.out.bo.cell 4
        obtain ⟨x2, cap2, w3, hrun, hR2⟩ := HA.out.snoc o.e HT2.out (by omega) 26
        have HRun : Hid (_ = _) := hrun
        have HE : Hid (RunsAt w0 B w3 g (k + 1) x2 cap2 (l ++ [o.e]) _) := hR2
        have HLen : Hid (Calls _ _ _ _ _) := qs_len hR2.q
        clear hrun hR2
        unfold iptr at *
        go_wp2_with (first | (at_builtin; refine wpList_appE rfl _ _ rfl _ _ _ rfl rfl HRun.out ?_))
        go_wp2_with fail
        refine Calls.mono HLen.out ?_
        rintro e w' ⟨rfl, hw⟩; rw [hw]; clear hw w' HLen
        rw [show (((l ++ [o.e]).length : Nat) : Int) = ((l.length + 1 : Nat) : Int) by simp]
        go_wp2_with fail
        refine ⟨⟨k + 1, cap2, x2, l ++ [o.e], _, ⟨rfl, rfl, rfl, rfl, rfl, by simp, by go_num⟩, by omega, by omega, by simp; omega, HE.out⟩, ?_⟩
        simp [Rmu, intOf]; omega
      · subst ha
        have hTs : Tb o.e.key = some e.at_ := by rw [← hke]; exact HTab.out.at he
        have HT2 : Hid (Tab (putT Tb o.e.key o.e.at_) (l.set i (entOf o.e.key o.e.at_))) := by rw [← hke]; exact HTab.out.set he HOP.out.wa
        rw [hTs] at HS
        have HS2 : Hid (Calls _ _ _ _ _) := HS.out
        have HI : Hid (l[i]? = some e ∧ e.key = o.e.key) := ⟨he, hke⟩
        have hil : (i : Int) < (l.length : Int) := by omega
        have hi0 : decide (0 ≤ (i : Int)) = true := decide_eq_true (by omega)
        clear he hke hTs HS HF HTab
        go_wp2_with fail
        refine Calls.mono HS2.out ?_
        rintro r w2 ⟨rfl, hA⟩
        have HA : Hid (AftAt w0 B w2 g (k + 1) l.length (putT Tb o.e.key o.e.at_) x cap l bo o) := hA
        clear hA HS2 HZ c0 c1 c2 c3 c4
        have c4 : w2.cell? ⟨bo, 4, none⟩ = some (.int .i64 o.e.at_) := HA.out.bo.cell 4
        have d0 := (HA.out.r.at HI.out.1).1
        have f0 := HA.out.r.frozen (i * 4)
        have hE : RunsAt w0 B (w2.setCell (x.add (i * 4)) (.int .i64 o.e.at_)) g (k + 1) x cap (l.set i (entOf o.e.key o.e.at_)) (putT Tb o.e.key o.e.at_) :=
          AftAt.done (by rw [List.length_set]; exact HA.out) HT2.out (HA.out.r.chgSet (i * 4) _) (by have := HA.out.r.set HI.out.1 o.e.at_; rw [HI.out.2] at this; exact this)
        have HE : Hid (RunsAt w0 B (w2.setCell (x.add (i * 4)) (.int .i64 o.e.at_)) g (k + 1) x cap (l.set i (entOf o.e.key o.e.at_)) (putT Tb o.e.key o.e.at_)) := hE
        have hlen := qs_len hE.q
        rw [List.length_set] at hlen
        have HLen : Hid (Calls _ _ _ _ _) := hlen
        clear hE hlen
        unfold iptr at *
        go_wp2_with fail
        refine Calls.mono HLen.out ?_
        rintro e w' ⟨rfl, hw⟩; rw [hw]; clear hw w' HLen
        go_wp2_with fail
        refine ⟨⟨k + 1, cap, x, l.set i (entOf o.e.key o.e.at_), _, ⟨rfl, rfl, rfl, rfl, rfl, by rw [List.length_set]; rfl, by go_num⟩, by omega, by omega, by rw [List.length_set]; omega, HE.out⟩, ?_⟩
        simp [Rmu, intOf]; omega

end Go.Proofs.Ytgoejoiomjmfaaa

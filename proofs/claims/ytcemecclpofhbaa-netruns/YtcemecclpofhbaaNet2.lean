/- net: Send, walked. Own lemmas, no statement. -/
import Derived.Test.YtcemecclpofhbaaNet1
import Derived.Test.YtcemecclpofhbaaLast
import Derived.Test.YtcemecclpofhbaaOps
import Derived.Maps.AppendAt
import Derived.BigQuiet
set_option linter.unusedSimpArgs false
set_option linter.unusedVariables false
namespace Go.Proofs.Ytcemecclpofhbaa
open Go.ChangeShapes Go.WideShapes Go.ChangeAt Go.RowKit

theorem wpAnyH_callS {P : Program} {ops : Array Oper} {Q : Exit → Act → World → Prop} {S : World → Prop} {i : Nat} {o : Oper} {f : FuncId} {args : Array Value} {fuel : Nat} {listed : Array Bool} {a : Act} {w : World} {R : Ending → World → Prop} (d : Tmp) (ho : ops[i]? = some o) (hr : Region.ready .any ops listed = [i])
    (hd : o.dst = some d) (hw : Region.wanted o (yielded ops a.tmps) = true) (hx : (execOp a.eval o).run P w = .ok (.enter f args) w) (hc : Calls P f args w R)
    (h : ∀ e w', R e w' → ∃ v, e = .returned v ∧ S w' ∧ wpAnyH P .any ops Q S fuel (listed.setIfInBounds i true) (a.put (some d) v) w') : wpAnyH P .any ops Q S (fuel + 1) listed a w :=
  wpAnyH_call ho hr hw hx hc fun e w' he => by
    obtain ⟨v, hv, hs, hn⟩ := h e w' he
    exact ⟨v, hv, S, fun _ h => h, hs, by rw [hd]; exact hn⟩
theorem infoL : (Try.prog.info? 34).map (fun i => (i.zero, i.size, i.bytes)) = some (some (.agg #[.int .i64 0, .slice none 0 0]), 2, 32) := by kernel_rfl
theorem exec_app {ρ : Operand → Value} {o : Oper} {w w' : World} {s x : Operand} {t : TypeId} {v vx v' : Value} (ho : o.op = .call { callee := .builtin .append, args := #[s, x], argTypes := #[t, t] }) (hs : ρ s = v) (hx : ρ x = vx) (hr : (Builtin.append_ #[t, t] o.type #[v, vx]).run Try.prog w = .ok v' w') : (execOp ρ o).run Try.prog w = .ok (.value v') w' := by
  unfold execOp
  simp only [ho, resolve, invoke, builtin, Sem.run_bind, Sem.run_pure, Result.andThen_ok, List.map_toArray, List.map_cons, List.map_nil, hs, hx, hr]
theorem exec_buildL {ρ : Operand → Value} {o : Oper} {w : World} {x : Operand} {d : Int} {a : Option Addr} {n c : Nat} (ho : o.op = .buildSlice 25 1 #[(0, x)]) (hx : ρ x = .agg #[.int .i64 d, .slice a n c]) : (execOp ρ o).run Try.prog w = .ok (.value (.slice (some ⟨w.heap.size, 0, none⟩) 1 1)) (w.alloc (.cells #[.int .i64 d, .slice a n c] 34)) := by
  unfold execOp
  rw [ho]
  go_simp
theorem cells_new (w : World) (l : List Value) (t : TypeId) : ∀ j u, l[j]? = some u → (w.alloc (.cells l.toArray t)).cell? ((⟨w.heap.size, 0, none⟩ : Addr).add j) = some u := by
  intro j u hj
  have := (Blk.new w l.toArray t).cell j
  rw [show (⟨w.heap.size, 0, none⟩ : Addr).add j = ⟨w.heap.size, j, none⟩ by by_cases h0 : j = 0 <;> simp [Addr.add, h0], this]
  simpa using hj
theorem cs_one (x : LetV) : ∀ u ∈ x.cs, u.oneCell' = true := by
  intro u hu
  simp [LetV.cs] at hu
  rcases hu with rfl | rfl <;> rfl
/-- What an append of one letter does. -/
theorem run_pushL (W : World) (ty : TypeId) (B : Nat) (v : Value) (ls : List LetV) (x : LetV) (hown : W.ownsRow B 34 2 v ls.length (ls.map LetV.cs).flatten) (hl : ls.length ≤ 2000) (hB : B ≤ W.heap.size) :
    ∃ a' c' W', (Builtin.append_ #[25, 25] ty #[v, .slice (some ⟨W.heap.size, 0, none⟩) 1 1]).run Try.prog (W.alloc (.cells x.cs.toArray 34)) = .ok (.slice a' (ls ++ [x]).length c') W' ∧ W'.ownsRow B 34 2 (.slice a' (ls ++ [x]).length c') (ls ++ [x]).length ((ls ++ [x]).map LetV.cs).flatten ∧ (W.alloc (.cells x.cs.toArray 34)).grownBy W' v.ownBlock ∧ ((Value.slice a' (ls ++ [x]).length c').ownBlock = v.ownBlock ∨ (Value.slice a' (ls ++ [x]).length c').ownBlock = some (W.heap.size + 1)) := by
  obtain ⟨i0, hi, hz0, hz1, hz2⟩ := info_parts infoL
  obtain ⟨v', w', hr, h1, h2, _, h4⟩ := run_append_own_at (P := Try.prog) (W.alloc (.cells x.cs.toArray 34)) B 25 ty 34 i0 (.agg #[.int .i64 0, .slice none 0 0]) 2 32 Try.underlying25 hi hz0 hz1 hz2 rfl (by decide) v ls.length _ (World.ownsRow.alloc hown _) ⟨W.heap.size, 0, none⟩ 1 1 x.cs rfl (cells_new _ _ _) (cs_one x) (by unfold maxLen; omega) (by omega) (by simp; omega)
  have h5 : w'.ownsRow B 34 2 v' (ls ++ [x]).length ((ls ++ [x]).map LetV.cs).flatten := by
    rw [List.length_append, List.length_singleton, List.map_append, List.flatten_append, List.map_singleton, List.flatten_singleton]
    exact h1
  rcases h5.2 with ⟨_, h0⟩ | ⟨g, cap, cur, rfl, _⟩
  · simp at h0
  · exact ⟨_, _, w', hr, h5, h2, by simpa using h4⟩
/-- A letter more. -/
theorem NetI.push {W W1 W2 : World} {B p : Nat} {v v' : Value} {ls : List LetV} {x : LetV} (h : NetI W B p v ls) (hx : Own W1 W.heap.size x.v x.bs) (hb : Below W.heap.size W W1) (hl : x.bs.length ≤ 200) (hd : 0 ≤ x.dst ∧ x.dst < 64) (hn : ls.length < 2000)
    (ho : W2.ownsRow B 34 2 v' (ls ++ [x]).length ((ls ++ [x]).map LetV.cs).flatten) (hg : (W1.alloc (.cells x.cs.toArray 34)).grownBy W2 v.ownBlock) (hat : v'.ownBlock = v.ownBlock ∨ v'.ownBlock = some (W1.heap.size + 1)) :
    NetI (W2.setCell ⟨p, 0, none⟩ v') B p v' (ls ++ [x]) ∧ Chg (fun i => i = p ∨ v.ownBlock = some i) W (W2.setCell ⟨p, 0, none⟩ v') ∧ ∀ i, FP p v' (ls ++ [x]) i → FP p v ls i ∨ W.heap.size ≤ i := by
  have hsz := hb.size
  have hsz2 := hg.size
  simp at hsz2
  have bp : ∀ i, i < W1.heap.size → v.ownBlock ≠ some i → W2.heap[i]? = W1.heap[i]? := fun i hi hne => by
    rw [hg.block i (by simp; omega) (fun e => hne e.symm), Below.heap_alloc _ _ _ hi]
  have hpr : v.ownBlock ≠ some p := fun e => by
    rcases h.own.2 with ⟨rfl, _⟩ | ⟨g, cap, cur, rfl, _, hg', _⟩
    · cases e
    · simp [Value.ownBlock] at e
      subst e
      exact absurd (h.blk.inj hg').2 (by decide)
  have hP1 : Blk W1 p #[v] 27 := h.blk.of (hb.block p h.blk.lt)
  have hP2 : Blk W2 p #[v] 27 := hP1.of (bp p hP1.lt hpr)
  have hP3 : Blk (W2.setCell ⟨p, 0, none⟩ v') p #[v'] 27 := by
    have := hP2.set 0 v'
    simpa using this
  have hvp : v'.ownBlock ≠ some p := fun e => by
    rcases hat with e2 | e2
    · exact hpr (by rw [← e2]; exact e)
    · rw [e2] at e
      cases e
      have := h.blk.lt
      omega
  have hel : ∀ y ∈ ls, ∀ b, y.v.ownBlock = some b → b ≠ p ∧ v.ownBlock ≠ some b ∧ b < W.heap.size := fun y hy b e => by
    have hyo := (h.el y hy).1
    have hlt := World.ownsRow.lt hyo b e
    rcases hyo.2 with ⟨e2, _⟩ | ⟨g, cap, cur, e2, _, hg', _⟩
    · rw [e2] at e; cases e
    · rw [e2] at e
      simp [Value.ownBlock] at e
      subst e
      refine ⟨fun e3 => ?_, fun e3 => ?_, hlt.2⟩
      · subst e3
        exact absurd (h.blk.inj hg').2 (by decide)
      · rcases h.own.2 with ⟨e4, _⟩ | ⟨g2, cap2, cur2, e4, _, hg2, _⟩
        · rw [e4] at e3; cases e3
        · rw [e4] at e3
          simp [Value.ownBlock] at e3
          subst e3
          exact absurd (Blk.inj (show Blk W g2 cur2 34 from hg2) hg').2 (by decide)
  have hxb : ∀ b, x.v.ownBlock = some b → W.heap.size ≤ b ∧ b < W1.heap.size := fun b e => World.ownsRow.lt hx b e
  refine ⟨⟨hP3, h.base, owns_kept ho (fun g e => Below.heap_setCell _ _ _ _ (by rintro rfl; exact hvp e)), fun y hy => ?_, ?_, by rw [List.length_append]; simp; omega⟩, ?_, ?_⟩
  · rcases List.mem_append.1 hy with hy | hy
    · refine ⟨owns_kept (h.el y hy).1 fun b e => ?_, (h.el y hy).2⟩
      obtain ⟨e1, e2, e3⟩ := hel y hy b e
      rw [Below.heap_setCell _ _ _ _ (by exact e1), bp b (by omega) e2, hb.block b e3]
    · simp at hy
      subst hy
      refine ⟨owns_kept (Own.mono hx (by have := h.base; have := h.blk.lt; omega)) fun b e => ?_, hl, hd⟩
      obtain ⟨e1, e2⟩ := hxb b e
      have := h.blk.lt
      rw [Below.heap_setCell _ _ _ _ (by show b ≠ p; omega), bp b e2 (fun e3 => by have := (h.own.lt b e3).2; omega)]
  · refine List.pairwise_append.2 ⟨h.apart, List.pairwise_singleton _ _, fun y hy z hz b e e2 => ?_⟩
    simp at hz
    subst hz
    have := (hel y hy b e).2.2
    have := (hxb b e2).1
    omega
  · refine ⟨hg.os.trans hb.os, hg.tape.trans hb.tape, hg.output.trans hb.output, by simp; omega, fun i hi hne => ?_⟩
    have e1 : i ≠ p := fun e => hne (.inl e)
    rw [Below.heap_setCell _ _ _ _ (by exact e1), bp i (by omega) (fun e => hne (.inr e)), hb.block i hi]
  · intro i hi
    rcases hi with rfl | hi | ⟨y, hy, hi⟩
    · exact .inl (.inl rfl)
    · rcases hat with e | e
      · exact .inl (.inr (.inl (by rw [← e]; exact hi)))
      · rw [e] at hi
        cases hi
        exact .inr (by omega)
    · rcases List.mem_append.1 hy with hy | hy
      · exact .inl (.inr (.inr ⟨y, hy, hi⟩))
      · simp at hy
        subst hy
        exact .inr (hxb i hi).1
/-- What Send hands back. -/
def SendP (B p : Nat) (v : Value) (ls : List LetV) (to_ : Int) (l : List UInt8) (w : World) (e : Ending) (w' : World) : Prop :=
  ((to_ < 0 ∨ 64 ≤ to_ ∨ 200 < l.length) ∧ e = .returned (.int .i64 1) ∧ w' = w) ∨
  (¬ (to_ < 0 ∨ 64 ≤ to_ ∨ 200 < l.length) ∧ 2000 ≤ ls.length ∧ e = .returned (.int .i64 3) ∧ w' = w) ∨
  (¬ (to_ < 0 ∨ 64 ≤ to_ ∨ 200 < l.length) ∧ ls.length < 2000 ∧ e = .returned (.int .i64 0) ∧ ∃ v' x, x.dst = to_ ∧ x.bs = l ∧ NetI w' B p v' (ls ++ [x]) ∧ Chg (fun i => i = p ∨ v.ownBlock = some i) w w' ∧ ∀ i, FP p v' (ls ++ [x]) i → FP p v ls i ∨ w.heap.size ≤ i)
set_option maxRecDepth 100000 in
set_option maxHeartbeats 4000000 in
theorem send_any (B p : Nat) (v : Value) (ls : List LetV) (to_ : Int) (ao : Option Addr) (n c : Nat) (l : List UInt8) (w : World) (h : NetI w B p v ls) (hs : Src w (.slice ao n c) l) (hm : l.length ≤ 1000000) :
    Calls Try.prog 8 #[.pointer (some ⟨p, 0, none⟩), .int .i64 to_, .slice ao n c] w (SendP B p v ls to_ l w) := by
  have HN : Hid (NetI w B p v ls) := h
  have HS : Hid (Src w (.slice ao n c) l) := hs
  have hn : n = l.length := hs.at.1
  have HM : Hid (l.length ≤ 1000000) := hm
  have HPP : Hid (∀ e w', (((to_ < 0 ∨ 64 ≤ to_ ∨ 200 < n) ∧ e = .returned (.int .i64 1) ∧ w' = w) ∨
    (¬ (to_ < 0 ∨ 64 ≤ to_ ∨ 200 < n) ∧ 2000 ≤ ls.length ∧ e = .returned (.int .i64 3) ∧ w' = w) ∨
    (¬ (to_ < 0 ∨ 64 ≤ to_ ∨ 200 < n) ∧ ls.length < 2000 ∧ e = .returned (.int .i64 0) ∧ ∃ v' x, x.dst = to_ ∧ x.bs = l ∧ NetI w' B p v' (ls ++ [x]) ∧ Chg (fun i => i = p ∨ v.ownBlock = some i) w w' ∧ ∀ i, FP p v' (ls ++ [x]) i → FP p v ls i ∨ w.heap.size ≤ i)) → SendP B p v ls to_ l w e w') := fun e w' hh => by rw [hn] at hh; exact hh
  have HL : Hid (n = l.length) := hn
  clear h hs hm hn
  obtain ⟨m, hm⟩ : ∃ m, m = ls.length := ⟨_, rfl⟩
  have HLN : Hid (m = ls.length) := hm
  clear hm
  go_enter Try.func8, Try.ntmps8
  by_cases h0 : to_ < 0
  · go_wp2
    go_ret
    exact HPP.out _ _ (.inl ⟨.inl h0, rfl, rfl⟩)
  by_cases h1 : 64 ≤ to_
  · go_wp2
    go_ret
    exact HPP.out _ _ (.inl ⟨.inr (.inl h1), rfl, rfl⟩)
  by_cases h2 : 200 < n
  · go_wp2
    go_ret
    exact HPP.out _ _ (.inl ⟨.inr (.inr h2), rfl, rfl⟩)
  have HOK : Hid (¬ (to_ < 0 ∨ 64 ≤ to_ ∨ 200 < n)) := by show ¬ _; omega
  have HX : Hid (Calls _ _ _ _ _) := len_any B p v ls w HN.out
  rw [← HLN.out] at HX
  go_wp2_with fail
  refine HX.out.mono ?_
  rintro e w1 ⟨rfl, hw⟩
  rw [hw]
  clear HX hw w1
  by_cases h3 : 2000 ≤ m
  · go_wp2
    go_ret
    exact HPP.out _ _ (.inr (.inl ⟨HOK.out, by rw [← HLN.out]; exact h3, rfl, rfl⟩))
  go_upto_region 5 with fail
  obtain ⟨a, k, hv, _⟩ := HN.out.form
  rw [← HLN.out] at hv
  have HV : Hid (v = .slice a m k) := hv
  have HNL : Hid (ls.length < 2000) := by have := HLN.out; show _ < _; omega
  have HTO : Hid (0 ≤ to_ ∧ to_ < 64 ∧ n ≤ 200) := by show _ ∧ _; omega
  have hbk : Blk w.drew p #[.slice a m k] 27 := by rw [← hv]; exact HN.out.blk
  clear h0 h1 h2 h3 hv
  refine wp_region_seg (fun _ => True) (by kernel_rfl) ?_
  haveI nA : Nonempty (Cls fun _ => True) := ⟨⟨w, trivial⟩⟩
  refine wpAnyH_seg (by kernel_rfl) (fun _ _ _ h => h) [0, 1, 2, 3, 5, 6] 8 _ _ _ trivial (by kernel_rfl) ?_
  simp only [opsAt, List.getElem?_toArray, List.getElem?_cons_zero, List.getElem?_cons_succ, List.cons_append, List.nil_append]
  repeat (go_big_quiet_step (fail))
  refine wpQuiet_nil ?_
  have HBK0 : Hid (Blk w.drew p #[.slice a m k] 27) := hbk
  clear hbk
  refine wpAnyH_all (rs := [4, 7]) (fuel := 7) (by kernel_rfl) (by simp) fun j hj => ?_
  rcases (show j = 4 ∨ j = 7 by simpa using hj) with rfl | rfl
  · clear hj
    refine wpOp_value 31 rfl (by kernel_rfl) rfl (exec_load1 rfl rfl Try.underlying25 rfl (HBK0.out.cell 0)) ?_
    refine ⟨trivial, ?_⟩
    simp only [Act.put, List.setIfInBounds_toArray, List.set_cons_succ, List.set_cons_zero]
    refine wpAnyH_all (rs := [7]) (fuel := 6) (by kernel_rfl) (by simp) fun j hj => ?_
    obtain rfl : j = 7 := by simpa using hj
    clear hj
    have HX : Hid (Calls _ _ _ _ _) := clone_any ao n c l w.drew (HS.out.below (Below.drew (Below.refl _ _))) HM.out
    refine wpOp_enter 34 rfl (by kernel_rfl) rfl (f := 14) (args := #[.slice ao n c]) (by kernel_rfl) HX.out ?_
    rintro e w1 ⟨a', c', rfl, ho, y⟩
    refine ⟨_, rfl, trivial, ?_⟩
    rw [← HL.out] at ho ⊢
    have HO : Hid (Own w1 w.heap.size (.slice a' n c') l) := ho
    have HY : Hid (Below w.heap.size w w1) := (Below.drew (Below.refl _ _)).trans y
    have HBK : Hid (Blk w1 p #[.slice a m k] 27) := HBK0.out.of (y.block _ HBK0.out.lt)
    clear ho y HX
    simp only [Act.put, List.setIfInBounds_toArray, List.set_cons_succ, List.set_cons_zero]
    obtain ⟨x, hx⟩ : ∃ x : LetV, x = ⟨to_, a', n, c', l⟩ := ⟨_, rfl⟩
    have HXE : Hid (x = ⟨to_, a', n, c', l⟩) := hx
    clear hx
    refine wpAnyH_seg (by kernel_rfl) (fun _ _ _ h => h) [8] 5 _ _ _ trivial (by kernel_rfl) ?_
    simp only [opsAt, List.getElem?_toArray, List.getElem?_cons_zero, List.getElem?_cons_succ, List.cons_append, List.nil_append]
    repeat (go_big_quiet_step (fail))
    refine wpQuiet_nil ?_
    refine wpAnyH_all (rs := [9]) (fuel := 4) (by kernel_rfl) (by simp) fun j hj => ?_
    obtain rfl : j = 9 := by simpa using hj
    clear hj
    refine wpOp_value 36 rfl (by kernel_rfl) rfl (exec_buildL rfl rfl) ?_
    refine ⟨trivial, ?_⟩
    simp only [Act.put, List.setIfInBounds_toArray, List.set_cons_succ, List.set_cons_zero]
    have HPU : Hid _ := run_pushL w1 25 B v ls x (owns_kept HN.out.own fun g e => HY.out.block g (HN.out.own.lt g e).2) (by have := HNL.out; omega) (by have := HN.out.blk.lt; have := HN.out.base; have := HY.out.size; omega)
    obtain ⟨a2, c2, w2, hr, ho2, hg2, hat2⟩ := HPU.out
    have hxc : x.cs.toArray = #[.int .i64 to_, .slice a' n c'] := by rw [HXE.out]; rfl
    rw [HV.out, hxc] at hr
    have hbk3 : Blk w2 p #[.slice a m k] 27 := by
      refine HBK.out.of ?_
      rw [hg2.block p (by simp; have := HBK.out.lt; omega) (fun e => ?_), Below.heap_alloc _ _ _ HBK.out.lt]
      have := HN.out.own
      rcases this.2 with ⟨e2, _⟩ | ⟨g, cap, cur, e2, _, hg', _⟩
      · rw [e2] at e; cases e
      · rw [e2] at e
        simp [Value.ownBlock] at e
        subst e
        exact absurd (HN.out.blk.inj hg').2 (by decide)
    obtain ⟨hNI, hCH, hFP⟩ := NetI.push HN.out (x := x) (by rw [HXE.out]; exact HO.out) HY.out (by rw [HXE.out]; have := HTO.out; have := HL.out; show l.length ≤ 200; omega) (by rw [HXE.out]; exact ⟨HTO.out.1, HTO.out.2.1⟩) HNL.out ho2 hg2 hat2
    have HQ : Hid (x.dst = to_ ∧ x.bs = l) := by rw [HXE.out]; exact ⟨rfl, rfl⟩
    generalize hm2 : (ls ++ [x]).length = m2 at hNI hCH hFP hr ho2
    have HR : Hid _ := hr
    have HRES : Hid (∃ v' x, x.dst = to_ ∧ x.bs = l ∧ NetI (w2.setCell ⟨p, 0, none⟩ (.slice a2 m2 c2)) B p v' (ls ++ [x]) ∧ Chg (fun i => i = p ∨ v.ownBlock = some i) w (w2.setCell ⟨p, 0, none⟩ (.slice a2 m2 c2)) ∧ ∀ i, FP p v' (ls ++ [x]) i → FP p v ls i ∨ w.heap.size ≤ i) := ⟨_, x, HQ.out.1, HQ.out.2, hNI, hCH, hFP⟩
    clear hNI hCH hFP ho2 hg2 hat2 HPU hxc hr hm2 HQ
    refine wpAnyH_all (rs := [10]) (fuel := 3) (by kernel_rfl) (by simp) fun j hj => ?_
    obtain rfl : j = 10 := by simpa using hj
    clear hj
    refine wpOp_value 37 rfl (by kernel_rfl) rfl (exec_app rfl rfl rfl HR.out) ?_
    refine ⟨trivial, ?_⟩
    simp only [Act.put, List.setIfInBounds_toArray, List.set_cons_succ, List.set_cons_zero]
    clear HR
    refine wpAnyH_seg (by kernel_rfl) (fun _ _ _ h => h) [11, 12] 1 _ _ _ trivial (by kernel_rfl) ?_
    simp only [opsAt, List.getElem?_toArray, List.getElem?_cons_zero, List.getElem?_cons_succ, List.cons_append, List.nil_append]
    repeat (go_big_quiet_step (fail))
    refine wpQuiet_nil ?_
    clear nA
    refine wpAnyH_all (rs := [13]) (fuel := 0) (by kernel_rfl) (by simp) fun j hj => ?_
    obtain rfl : j = 13 := by simpa using hj
    clear hj
    refine wpOp_store1 rfl (by kernel_rfl) 25 _ _ rfl rfl p 0 (.slice a2 m2 c2) rfl rfl (thereN 1 hbk3 (by simp)) (by kernel_rfl) rfl ?_
    refine ⟨trivial, ?_⟩
    clear hbk3 HBK
    generalize w2.setCell ⟨p, 0, none⟩ (.slice a2 m2 c2) = w3 at *
    refine wpAnyH_done (by kernel_rfl) (NoPanic.normal ?_) 0
    go_wp2
    go_ret
    exact HPP.out _ _ (.inr (.inr ⟨HOK.out, HNL.out, rfl, HRES.out⟩))
  · clear hj
    have HX : Hid (Calls _ _ _ _ _) := clone_any ao n c l w.drew (HS.out.below (Below.drew (Below.refl _ _))) HM.out
    refine wpOp_enter 34 rfl (by kernel_rfl) rfl (f := 14) (args := #[.slice ao n c]) (by kernel_rfl) HX.out ?_
    rintro e w1 ⟨a', c', rfl, ho, y⟩
    refine ⟨_, rfl, trivial, ?_⟩
    rw [← HL.out] at ho ⊢
    have HO : Hid (Own w1 w.heap.size (.slice a' n c') l) := ho
    have HY : Hid (Below w.heap.size w w1) := (Below.drew (Below.refl _ _)).trans y
    have HBK : Hid (Blk w1 p #[.slice a m k] 27) := HBK0.out.of (y.block _ HBK0.out.lt)
    clear ho y HX
    simp only [Act.put, List.setIfInBounds_toArray, List.set_cons_succ, List.set_cons_zero]
    obtain ⟨x, hx⟩ : ∃ x : LetV, x = ⟨to_, a', n, c', l⟩ := ⟨_, rfl⟩
    have HXE : Hid (x = ⟨to_, a', n, c', l⟩) := hx
    clear hx
    refine wpAnyH_seg (by kernel_rfl) (fun _ _ _ h => h) [8] 6 _ _ _ trivial (by kernel_rfl) ?_
    simp only [opsAt, List.getElem?_toArray, List.getElem?_cons_zero, List.getElem?_cons_succ, List.cons_append, List.nil_append]
    repeat (go_big_quiet_step (fail))
    refine wpQuiet_nil ?_
    refine wpAnyH_all (rs := [4, 9]) (fuel := 5) (by kernel_rfl) (by simp) fun j hj => ?_
    rcases (show j = 4 ∨ j = 9 by simpa using hj) with rfl | rfl
    · clear hj
      refine wpOp_value 31 rfl (by kernel_rfl) rfl (exec_load1 rfl rfl Try.underlying25 rfl (HBK.out.cell 0)) ?_
      refine ⟨trivial, ?_⟩
      simp only [Act.put, List.setIfInBounds_toArray, List.set_cons_succ, List.set_cons_zero]
      refine wpAnyH_all (rs := [9]) (fuel := 4) (by kernel_rfl) (by simp) fun j hj => ?_
      obtain rfl : j = 9 := by simpa using hj
      clear hj
      refine wpOp_value 36 rfl (by kernel_rfl) rfl (exec_buildL rfl rfl) ?_
      refine ⟨trivial, ?_⟩
      simp only [Act.put, List.setIfInBounds_toArray, List.set_cons_succ, List.set_cons_zero]
      have HPU : Hid _ := run_pushL w1 25 B v ls x (owns_kept HN.out.own fun g e => HY.out.block g (HN.out.own.lt g e).2) (by have := HNL.out; omega) (by have := HN.out.blk.lt; have := HN.out.base; have := HY.out.size; omega)
      obtain ⟨a2, c2, w2, hr, ho2, hg2, hat2⟩ := HPU.out
      have hxc : x.cs.toArray = #[.int .i64 to_, .slice a' n c'] := by rw [HXE.out]; rfl
      rw [HV.out, hxc] at hr
      have hbk3 : Blk w2 p #[.slice a m k] 27 := by
        refine HBK.out.of ?_
        rw [hg2.block p (by simp; have := HBK.out.lt; omega) (fun e => ?_), Below.heap_alloc _ _ _ HBK.out.lt]
        have := HN.out.own
        rcases this.2 with ⟨e2, _⟩ | ⟨g, cap, cur, e2, _, hg', _⟩
        · rw [e2] at e; cases e
        · rw [e2] at e
          simp [Value.ownBlock] at e
          subst e
          exact absurd (HN.out.blk.inj hg').2 (by decide)
      obtain ⟨hNI, hCH, hFP⟩ := NetI.push HN.out (x := x) (by rw [HXE.out]; exact HO.out) HY.out (by rw [HXE.out]; have := HTO.out; have := HL.out; show l.length ≤ 200; omega) (by rw [HXE.out]; exact ⟨HTO.out.1, HTO.out.2.1⟩) HNL.out ho2 hg2 hat2
      have HQ : Hid (x.dst = to_ ∧ x.bs = l) := by rw [HXE.out]; exact ⟨rfl, rfl⟩
      generalize hm2 : (ls ++ [x]).length = m2 at hNI hCH hFP hr ho2
      have HR : Hid _ := hr
      have HRES : Hid (∃ v' x, x.dst = to_ ∧ x.bs = l ∧ NetI (w2.setCell ⟨p, 0, none⟩ (.slice a2 m2 c2)) B p v' (ls ++ [x]) ∧ Chg (fun i => i = p ∨ v.ownBlock = some i) w (w2.setCell ⟨p, 0, none⟩ (.slice a2 m2 c2)) ∧ ∀ i, FP p v' (ls ++ [x]) i → FP p v ls i ∨ w.heap.size ≤ i) := ⟨_, x, HQ.out.1, HQ.out.2, hNI, hCH, hFP⟩
      clear hNI hCH hFP ho2 hg2 hat2 HPU hxc hr hm2 HQ
      refine wpAnyH_all (rs := [10]) (fuel := 3) (by kernel_rfl) (by simp) fun j hj => ?_
      obtain rfl : j = 10 := by simpa using hj
      clear hj
      refine wpOp_value 37 rfl (by kernel_rfl) rfl (exec_app rfl rfl rfl HR.out) ?_
      refine ⟨trivial, ?_⟩
      simp only [Act.put, List.setIfInBounds_toArray, List.set_cons_succ, List.set_cons_zero]
      clear HR
      refine wpAnyH_seg (by kernel_rfl) (fun _ _ _ h => h) [11, 12] 1 _ _ _ trivial (by kernel_rfl) ?_
      simp only [opsAt, List.getElem?_toArray, List.getElem?_cons_zero, List.getElem?_cons_succ, List.cons_append, List.nil_append]
      repeat (go_big_quiet_step (fail))
      refine wpQuiet_nil ?_
      clear nA
      refine wpAnyH_all (rs := [13]) (fuel := 0) (by kernel_rfl) (by simp) fun j hj => ?_
      obtain rfl : j = 13 := by simpa using hj
      clear hj
      refine wpOp_store1 rfl (by kernel_rfl) 25 _ _ rfl rfl p 0 (.slice a2 m2 c2) rfl rfl (thereN 1 hbk3 (by simp)) (by kernel_rfl) rfl ?_
      refine ⟨trivial, ?_⟩
      clear hbk3 HBK
      generalize w2.setCell ⟨p, 0, none⟩ (.slice a2 m2 c2) = w3 at *
      refine wpAnyH_done (by kernel_rfl) (NoPanic.normal ?_) 0
      go_wp2
      go_ret
      exact HPP.out _ _ (.inr (.inr ⟨HOK.out, HNL.out, rfl, HRES.out⟩))
    · clear hj
      refine wpOp_value 36 rfl (by kernel_rfl) rfl (exec_buildL rfl rfl) ?_
      refine ⟨trivial, ?_⟩
      simp only [Act.put, List.setIfInBounds_toArray, List.set_cons_succ, List.set_cons_zero]
      refine wpAnyH_all (rs := [4]) (fuel := 4) (by kernel_rfl) (by simp) fun j hj => ?_
      obtain rfl : j = 4 := by simpa using hj
      clear hj
      refine wpOp_value 31 rfl (by kernel_rfl) rfl (exec_load1 rfl rfl Try.underlying25 rfl ((HBK.out.alloc _).cell 0)) ?_
      refine ⟨trivial, ?_⟩
      simp only [Act.put, List.setIfInBounds_toArray, List.set_cons_succ, List.set_cons_zero]
      have HPU : Hid _ := run_pushL w1 25 B v ls x (owns_kept HN.out.own fun g e => HY.out.block g (HN.out.own.lt g e).2) (by have := HNL.out; omega) (by have := HN.out.blk.lt; have := HN.out.base; have := HY.out.size; omega)
      obtain ⟨a2, c2, w2, hr, ho2, hg2, hat2⟩ := HPU.out
      have hxc : x.cs.toArray = #[.int .i64 to_, .slice a' n c'] := by rw [HXE.out]; rfl
      rw [HV.out, hxc] at hr
      have hbk3 : Blk w2 p #[.slice a m k] 27 := by
        refine HBK.out.of ?_
        rw [hg2.block p (by simp; have := HBK.out.lt; omega) (fun e => ?_), Below.heap_alloc _ _ _ HBK.out.lt]
        have := HN.out.own
        rcases this.2 with ⟨e2, _⟩ | ⟨g, cap, cur, e2, _, hg', _⟩
        · rw [e2] at e; cases e
        · rw [e2] at e
          simp [Value.ownBlock] at e
          subst e
          exact absurd (HN.out.blk.inj hg').2 (by decide)
      obtain ⟨hNI, hCH, hFP⟩ := NetI.push HN.out (x := x) (by rw [HXE.out]; exact HO.out) HY.out (by rw [HXE.out]; have := HTO.out; have := HL.out; show l.length ≤ 200; omega) (by rw [HXE.out]; exact ⟨HTO.out.1, HTO.out.2.1⟩) HNL.out ho2 hg2 hat2
      have HQ : Hid (x.dst = to_ ∧ x.bs = l) := by rw [HXE.out]; exact ⟨rfl, rfl⟩
      generalize hm2 : (ls ++ [x]).length = m2 at hNI hCH hFP hr ho2
      have HR : Hid _ := hr
      have HRES : Hid (∃ v' x, x.dst = to_ ∧ x.bs = l ∧ NetI (w2.setCell ⟨p, 0, none⟩ (.slice a2 m2 c2)) B p v' (ls ++ [x]) ∧ Chg (fun i => i = p ∨ v.ownBlock = some i) w (w2.setCell ⟨p, 0, none⟩ (.slice a2 m2 c2)) ∧ ∀ i, FP p v' (ls ++ [x]) i → FP p v ls i ∨ w.heap.size ≤ i) := ⟨_, x, HQ.out.1, HQ.out.2, hNI, hCH, hFP⟩
      clear hNI hCH hFP ho2 hg2 hat2 HPU hxc hr hm2 HQ
      refine wpAnyH_all (rs := [10]) (fuel := 3) (by kernel_rfl) (by simp) fun j hj => ?_
      obtain rfl : j = 10 := by simpa using hj
      clear hj
      refine wpOp_value 37 rfl (by kernel_rfl) rfl (exec_app rfl rfl rfl HR.out) ?_
      refine ⟨trivial, ?_⟩
      simp only [Act.put, List.setIfInBounds_toArray, List.set_cons_succ, List.set_cons_zero]
      clear HR
      refine wpAnyH_seg (by kernel_rfl) (fun _ _ _ h => h) [11, 12] 1 _ _ _ trivial (by kernel_rfl) ?_
      simp only [opsAt, List.getElem?_toArray, List.getElem?_cons_zero, List.getElem?_cons_succ, List.cons_append, List.nil_append]
      repeat (go_big_quiet_step (fail))
      refine wpQuiet_nil ?_
      clear nA
      refine wpAnyH_all (rs := [13]) (fuel := 0) (by kernel_rfl) (by simp) fun j hj => ?_
      obtain rfl : j = 13 := by simpa using hj
      clear hj
      refine wpOp_store1 rfl (by kernel_rfl) 25 _ _ rfl rfl p 0 (.slice a2 m2 c2) rfl rfl (thereN 1 hbk3 (by simp)) (by kernel_rfl) rfl ?_
      refine ⟨trivial, ?_⟩
      clear hbk3 HBK
      generalize w2.setCell ⟨p, 0, none⟩ (.slice a2 m2 c2) = w3 at *
      refine wpAnyH_done (by kernel_rfl) (NoPanic.normal ?_) 0
      go_wp2
      go_ret
      exact HPP.out _ _ (.inr (.inr ⟨HOK.out, HNL.out, rfl, HRES.out⟩))
end Go.Proofs.Ytcemecclpofhbaa

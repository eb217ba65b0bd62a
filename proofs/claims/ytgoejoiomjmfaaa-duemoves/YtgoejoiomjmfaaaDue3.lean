/- The line's methods Len, Less, Swap. Own lemmas, no statement. -/
import Derived.Test.YtgoejoiomjmfaaaDue2
import Derived.BigQuiet
import Derived.RegionTactic
import Derived.BigRegion
namespace Go.Proofs.Ytgoejoiomjmfaaa
open Go.ChangeShapes Go.WideShapes Go.ChangeAt Go.RowKit

section
variable {P : Program} {ops : Array Oper} {Q : Exit → Act → World → Prop}
theorem run_storeVar_at (w : World) (b p : Nat) (ty : TypeId) (v : Value) (ht : w.there b p 1) (hi : (P.info? ty).map (·.size) = some 1) (h1 : v.oneCell' = true) :
    (storeVar ty ⟨b, p, none⟩ v).run P w = .ok () (w.setCell ⟨b, p, none⟩ v) := by
  have := run_storeCells_cells (P := P) b p [v] 0 w (fun j hj => by simpa using (ht j (by simpa using hj)).1) (fun j hj => by simpa using (ht j (by simpa using hj)).2) (fun x hx => by simp at hx; subst hx; exact h1)
  have hc : v.cells = #[v] := by cases v <;> first | rfl | cases h1
  cases hq : P.info? ty with
  | none => simp [hq] at hi
  | some i =>
    have hs : i.size = 1 := by simpa [hq] using hi
    simp only [Nat.add_zero] at this
    simp [storeVar, sizeOf, typeInfo, hq, hc, hs, this, World.setCells]
/-- A store of one cell, when it comes up. -/
theorem wpOp_store1 {K : Act → World → Prop} {i : Nat} {o : Oper} {a : Act} {w : World} (ho : ops[i]? = some o) (hw : Region.wanted o (yielded ops a.tmps) = true) (ty : TypeId) (x y : Operand) (hop : o.op = .store ty x y) (hd : o.dst = none)
    (b p : Nat) (u : Value) (hx : a.eval x = .pointer (some ⟨b, p, none⟩)) (hy : a.eval y = u) (ht : w.there b p 1) (hi : (P.info? ty).map (·.size) = some 1) (h1 : u.oneCell' = true)
    (h : K a (w.setCell ⟨b, p, none⟩ u)) : wpOp P ops Q i K a w := by
  unfold wpOp
  simp only [ho, hw, if_true]
  refine .inl ?_
  unfold Oper.wp execOp
  simp only [hop, hx, hy, Instr.storeAt, Instr.sureAddr, Sem.run_bind, Sem.run_pure, Result.andThen_ok, run_storeVar_at w b p ty u ht hi h1]
  simp only [Oper.upon]
  rw [hd]
  exact h
end
theorem there1 {w : World} {b p : Nat} {c : Array Value} {T : TypeId} (h : Blk w b c T) (hp : p < c.size) : w.there b p 1 := fun j hj => by
  obtain rfl : j = 0 := by omega
  exact ⟨by rw [Nat.add_zero, h.cell]; simp [hp], h.frozen _⟩
theorem cellC {S : Nat → Prop} {W0 : World} {a : Addr} {v : Value} (h : W0.cell? a = some v) (hn : ¬ S a.block) : ∀ s : Cls (Chg S W0), s.wd.cell? a = some v := fun s => s.ok.cell h hn
theorem cls_chg (S : Nat → Prop) (W : World) : Nonempty (Cls (Chg S W)) := ⟨⟨W, Chg.refl _ _⟩⟩

def lineV (b n cap : Nat) : Value := .slice (some ⟨b, 0, none⟩) n cap

theorem lineLen_any (v : Option Addr) (n cap : Nat) (w : World) :
    Calls Try.prog 40 #[.slice v n cap] w fun e w' => e = .returned (.int .i64 (n : Int)) ∧ w' = w := by
  go_enter Try.func40, Try.ntmps40
  go_wp2
  go_ret
  exact ⟨rfl, rfl⟩

set_option maxHeartbeats 1000000 in
theorem lineLess_any (b n cap : Nat) (A : Nat → It) (i j : Nat) (w : World) (h : Line w b n cap A) (hi : i < n) (hj : j < n) :
    Calls Try.prog 41 #[lineV b n cap, .int .i64 (i : Int), .int .i64 (j : Int)] w fun e w' => e = .returned (.bool (lessE (A i).e (A j).e)) ∧ Below w.heap.size w w' := by
  have ci := h.drew.cell hi
  have cj := h.drew.cell hj
  have bi := (h.drew.item i hi)
  have bj := (h.drew.item j hj)
  have hi' : (i : Int) < (n : Int) := by omega
  have hj' : (j : Int) < (n : Int) := by omega
  clear h
  have H : Hid (∀ w', _) := fun w' => ahead_any (A i).e (A j).e w'
  generalize (A i).blk = gi at *
  generalize (A j).blk = gj at *
  generalize (A i).e = ei at *
  generalize (A j).e = ej at *
  obtain ⟨a1, a2, a3, a4⟩ := ei
  obtain ⟨c1, c2, c3, c4⟩ := ej
  have k0 := cellX ci
  have k1 := cellX cj
  have i0 := cellX (show w.drew.cell? ⟨gi, 0, none⟩ = some (.int .i64 a1) from bi.cell 0)
  have i1 := cellX (show w.drew.cell? ⟨gi, 1, none⟩ = some (.int .i64 a2) from bi.cell 1)
  have i2 := cellX (show w.drew.cell? ⟨gi, 2, none⟩ = some (.int .u64 a3) from bi.cell 2)
  have i3 := cellX (show w.drew.cell? ⟨gi, 3, none⟩ = some (.int .i64 a4) from bi.cell 3)
  have j0 := cellX (show w.drew.cell? ⟨gj, 0, none⟩ = some (.int .i64 c1) from bj.cell 0)
  have j1 := cellX (show w.drew.cell? ⟨gj, 1, none⟩ = some (.int .i64 c2) from bj.cell 1)
  have j2 := cellX (show w.drew.cell? ⟨gj, 2, none⟩ = some (.int .u64 c3) from bj.cell 2)
  have j3 := cellX (show w.drew.cell? ⟨gj, 3, none⟩ = some (.int .i64 c4) from bj.cell 3)
  clear ci cj bi bj
  unfold iptr at k0 k1
  unfold lineV
  go_enter Try.func41, Try.ntmps41
  go_wp2_with fail
  haveI n1 := cls_ext w.drew
  refine wp_region_ext (by kernel_rfl) ?_
  refine wpAnyH_seg (by kernel_rfl) (fun _ _ _ h => h) [0, 1, 2, 3, 4, 5, 6, 7, 8, 9, 10, 11, 12, 13] 2 _ _ _ (Ext.refl _) (by kernel_rfl) ?_
  simp only [opsAt, List.getElem?_toArray, List.getElem?_cons_zero, List.getElem?_cons_succ, List.cons_append, List.nil_append]
  repeat (go_big_quiet_step (fail))
  refine wpQuiet_nil ?_
  clear k0 k1 i0 i1 i2 i3 j0 j1 j2 j3 n1
  refine wpAnyH_callE (i := 14) (fuel := 1) 21 rfl (by kernel_rfl) rfl (Ext.refl _) (by kernel_rfl) (f := 39) (args := #[entV ⟨a1, a2, a3, a4⟩, entV ⟨c1, c2, c3, c4⟩]) (by kernel_rfl) (H.out _) ?_
  rintro e w2 ⟨rfl, hb⟩
  refine ⟨_, rfl, hb, ?_⟩
  simp only [Act.put, List.setIfInBounds_toArray, List.set_cons_succ, List.set_cons_zero]
  haveI n2 := cls_ext w2
  refine wpAnyH_seg (by kernel_rfl) (fun _ _ _ h => h) [15] 0 _ _ _ (Ext.refl _) (by kernel_rfl) ?_
  simp only [opsAt, List.getElem?_toArray, List.getElem?_cons_zero, List.getElem?_cons_succ, List.cons_append, List.nil_append]
  repeat (go_big_quiet_step (fail))
  refine wpQuiet_nil ?_
  refine wpAnyH_done (by kernel_rfl) (NoPanic.normal ?_) 0
  go_wp2
  go_ret
  exact ⟨rfl, Below.trans (Below.drew (Below.refl _ _)) hb⟩

theorem Line.ofHeap {w w' : World} {b n cap : Nat} {A : Nat → It} (h : Line w b n cap A) (e : w'.heap = w.heap) : Line w' b n cap A := by
  have eb : ∀ {g c T}, Blk w g c T → Blk w' g c T := fun h => h.of (by rw [e])
  obtain ⟨cs, h1, h2⟩ := h.row
  exact ⟨⟨cs, eb h1, h2⟩, h.le, h.max, fun i hi => eb (h.item i hi), h.inj⟩

set_option maxHeartbeats 2000000 in
theorem lineSwap_any (b n cap : Nat) (A : Nat → It) (i j : Nat) (w : World) (h : Line w b n cap A) (hi : i < n) (hj : j < n) (hij : i ≠ j) :
    Calls Try.prog 42 #[lineV b n cap, .int .i64 (i : Int), .int .i64 (j : Int)] w fun e w' => e = .returned (.tuple #[]) ∧ Line w' b n cap (swapF A i j) ∧ Chg (LineB b n A) w w' := by
  have hF : Hid (∀ w', w'.heap = ((((w.setCell ⟨b, i, none⟩ (iptr (A j).blk)).setCell ⟨b, j, none⟩ (iptr (A i).blk)).setCell ⟨(A j).blk, 4, none⟩ (.int .i64 (i : Int))).setCell ⟨(A i).blk, 4, none⟩ (.int .i64 (j : Int))).heap → Line w' b n cap (swapF A i j)) := fun w' e => (h.swap hi hj).ofHeap e
  have hL : Hid (LineB b n A (A i).blk ∧ LineB b n A (A j).blk ∧ LineB b n A b) := ⟨.inr ⟨i, hi, rfl⟩, .inr ⟨j, hj, rfl⟩, .inl rfl⟩
  have ni := h.rowNe hi
  have nj := h.rowNe hj
  obtain ⟨cs, hrow, hcs, hcell⟩ := h.row
  have hle := h.le
  have ci := h.cell hi
  have cj := h.cell hj
  have bi := h.item i hi
  have bj := h.item j hj
  have hi' : (i : Int) < (n : Int) := by omega
  have hj' : (j : Int) < (n : Int) := by omega
  have hg : (A j).blk ≠ (A i).blk := fun e => hij (h.inj j i hj hi e).symm
  clear h hcell
  generalize LineB b n A = S at *
  generalize swapF A i j = A' at *
  generalize (A i).blk = gi at *
  generalize (A j).blk = gj at *
  generalize (A i).e = ei at *
  generalize (A j).e = ej at *
  have r1 := hrow.set i (iptr gj)
  have r2 := r1.set j (iptr gi)
  have f0 := hrow.frozen i
  have f1 := hrow.frozen j
  have f2 : (w.setCell ⟨b, i, none⟩ (iptr gj)).frozen? ⟨b, j, none⟩ = false := r1.frozen j
  have e1 : (w.setCell ⟨b, i, none⟩ (iptr gj)).cell? ⟨b, j, none⟩ = some (iptr gj) := by
    rw [r1.cell, Array.getElem?_setIfInBounds_ne (by omega), ← hrow.cell]; exact cj
  generalize hw1 : (w.setCell ⟨b, i, none⟩ (iptr gj)).setCell ⟨b, j, none⟩ (iptr gi) = w1 at *
  have d1 : w1.cell? ⟨b, i, none⟩ = some (iptr gj) := by
    rw [r2.cell, Array.getElem?_setIfInBounds_ne (by omega), Array.getElem?_setIfInBounds_self_of_lt (by omega)]
  have d2 : w1.cell? ⟨b, j, none⟩ = some (iptr gi) := by
    rw [r2.cell, Array.getElem?_setIfInBounds_self_of_lt (by simp; omega)]
  have u1 : Blk w1 gj (icells ej j) 59 := hw1 ▸ ((bj.setOther (b' := b) i (iptr gj) nj).setOther (b' := b) j (iptr gi) nj)
  have u2 : Blk w1 gi (icells ei i) 59 := hw1 ▸ ((bi.setOther (b' := b) i (iptr gj) ni).setOther (b' := b) j (iptr gi) ni)
  have p1 : w1.cell? ⟨gj, 4, none⟩ = some (.int .i64 (j : Int)) := u1.cell 4
  have p2 : w1.cell? ⟨gi, 4, none⟩ = some (.int .i64 (i : Int)) := u2.cell 4
  have p3 := u1.frozen 4
  have p4 := u2.frozen 4
  have u3 := u2.setOther (b' := gj) 4 (.int .i64 (i : Int)) hg.symm
  have p5 : (w1.setCell ⟨gj, 4, none⟩ (.int .i64 (i : Int))).cell? ⟨gi, 4, none⟩ = some (.int .i64 (i : Int)) := u3.cell 4
  have p6 := u3.frozen 4
  have HW1 : Hid ((w.setCell ⟨b, i, none⟩ (iptr gj)).setCell ⟨b, j, none⟩ (iptr gi) = w1) := hw1
  clear r1 r2 hrow hw1 u1 u2 u3 bi bj hcs
  unfold iptr at *
  unfold lineV
  go_enter Try.func42, Try.ntmps42
  go_wp2_with fail
  go_region
  rw [HW1.out]
  have HC1 : Hid (Chg S w w1) := by
    show Chg S w w1
    rw [← HW1.out]
    exact ((Chg.refl _ _).setCell _ (fun _ => hL.out.2.2) _).setCell _ (fun _ => hL.out.2.2) _
  clear HW1 ci cj f0 f1 f2 e1
  go_wp2_with fail
  go_region
  go_wp2_with fail
  go_end0
  exact ⟨rfl, hF.out _ rfl, (((HC1.out.setCell ⟨gj, 4, none⟩ (fun _ => hL.out.2.1) _).setCell ⟨gi, 4, none⟩ (fun _ => hL.out.1) _).drew).drew⟩
end Go.Proofs.Ytgoejoiomjmfaaa

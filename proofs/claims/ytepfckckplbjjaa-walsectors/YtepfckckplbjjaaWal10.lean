/- The log: a new life's master; a master written. Own lemmas, no statement. -/
import Derived.Test.YtepfckckplbjjaaWal9
import Derived.BigRegion
namespace Go.Proofs.Ytepfckckplbjjaa
open Go.ChangeShapes Go.WideShapes Go.ChangeAt Go.RowKit

theorem results_one {fn : Func} {p : Tmp} {P : Program} {ty : TypeId} (h : fn.results = #[.cell p ty]) (tmps : Array Value) (w : World) (r : Nat) (t : TypeId) (cs : Array Value) (d : TypeDesc) (hp : tmps.getD p undef = .pointer (some ⟨r, 0, none⟩)) (hg : Blk w r cs t)
    (hu : P.underlying ty = some d) (hd : (match d with | .struct _ | .array _ _ => true | _ => false) = true) (hi : (P.info? ty).map (·.size) = some cs.size) : (results fn tmps).run P w = .ok (.agg cs) w := by
  have e : (results fn tmps).run P w = (do loadVar ty (← asAddr (tmps.getD p undef)) : Sem Value).run P w := by
    unfold results
    simp [h]
  rw [e, hp]
  simp [asAddr, run_loadVar_row w r t ty cs (0, 0) d hg hu hd hi]

set_option maxRecDepth 10000 in
set_option maxHeartbeats 2000000 in
theorem reborn_any {w : World} {g d : Nat} {s : LSt} (h : LogAt w g d s) (life : Nat) : Calls Try.prog 41 #[lptr g, .int .u64 (life : Int)] w fun e w' => e = .returned (.agg (reb s life).cs) ∧ Below w.heap.size w w' := by
  have hb1 : Below w.heap.size w (w.alloc (.cells mZ 72)) := (Below.refl _ _).alloc (Nat.le_refl _) _
  have h1 : LogAt (w.alloc (.cells mZ 72)) g d s := Blk.alloc h _
  have hlt := Blk.lt h
  unfold mZ at *
  have a3 : (w.alloc (.cells #[.int .u64 0, .int .u64 0, .int .u64 0, .int .u64 0] 72)).cell? ⟨g, 3, none⟩ = some (.int .u64 (s.writing : Int)) := Blk.cell h1 3
  have a4 : (w.alloc (.cells #[.int .u64 0, .int .u64 0, .int .u64 0, .int .u64 0] 72)).cell? ⟨g, 4, none⟩ = some (.int .u64 (s.life : Int)) := Blk.cell h1 4
  have a5 : (w.alloc (.cells #[.int .u64 0, .int .u64 0, .int .u64 0, .int .u64 0] 72)).cell? ⟨g, 5, none⟩ = some (.int .u64 (s.first : Int)) := Blk.cell h1 5
  have a6 : (w.alloc (.cells #[.int .u64 0, .int .u64 0, .int .u64 0, .int .u64 0] 72)).cell? ⟨g, 6, none⟩ = some (.int .u64 (s.least : Int)) := Blk.cell h1 6
  have H : Hid (LogAt w g d s) := h
  clear hb1 h1 h
  unfold lptr
  go_enter Try.func41, Try.ntmps41
  go_wp2_with fail
  clear a3 a4 a5 a6
  have hbV : Below w.heap.size w ((w.alloc (.cells #[.int .u64 0, .int .u64 0, .int .u64 0, .int .u64 0] 72)).alloc (.cells #[.int .u64 (s.writing : Int), .int .u64 (life : Int), .int .u64 (s.first : Int), .int .u64 (s.least : Int)] 72)).drew := (((Below.refl _ _).alloc (Nat.le_refl _) _).alloc (by simp) _).drew
  have hzV : Blk ((w.alloc (.cells #[.int .u64 0, .int .u64 0, .int .u64 0, .int .u64 0] 72)).alloc (.cells #[.int .u64 (s.writing : Int), .int .u64 (life : Int), .int .u64 (s.first : Int), .int .u64 (s.least : Int)] 72)).drew w.heap.size #[.int .u64 0, .int .u64 0, .int .u64 0, .int .u64 0] 72 := (Blk.new w _ _).alloc _
  have hpV : Blk ((w.alloc (.cells #[.int .u64 0, .int .u64 0, .int .u64 0, .int .u64 0] 72)).alloc (.cells #[.int .u64 (s.writing : Int), .int .u64 (life : Int), .int .u64 (s.first : Int), .int .u64 (s.least : Int)] 72)).drew (w.heap.size + 1) #[.int .u64 (s.writing : Int), .int .u64 (life : Int), .int .u64 (s.first : Int), .int .u64 (s.least : Int)] 72 := by
    have := Blk.new (w.alloc (.cells #[.int .u64 0, .int .u64 0, .int .u64 0, .int .u64 0] 72)) #[.int .u64 (s.writing : Int), .int .u64 (life : Int), .int .u64 (s.first : Int), .int .u64 (s.least : Int)] 72
    rw [show (w.alloc (.cells #[.int .u64 0, .int .u64 0, .int .u64 0, .int .u64 0] 72)).heap.size = w.heap.size + 1 by simp] at this
    exact this
  have c7 : (((w.alloc (.cells #[.int .u64 0, .int .u64 0, .int .u64 0, .int .u64 0] 72)).alloc (.cells #[.int .u64 (s.writing : Int), .int .u64 (life : Int), .int .u64 (s.first : Int), .int .u64 (s.least : Int)] 72)).drew).cell? ⟨g, 7, none⟩ = some (.int .u64 (s.next : Int)) := Blk.cell (Blk.alloc (Blk.alloc H.out _) _) 7
  have p2 : (((w.alloc (.cells #[.int .u64 0, .int .u64 0, .int .u64 0, .int .u64 0] 72)).alloc (.cells #[.int .u64 (s.writing : Int), .int .u64 (life : Int), .int .u64 (s.first : Int), .int .u64 (s.least : Int)] 72)).drew).cell? ⟨w.heap.size + 1, 2, none⟩ = some (.int .u64 (s.first : Int)) := hpV.cell 2
  have HBV : Hid (Below w.heap.size w ((w.alloc (.cells #[.int .u64 0, .int .u64 0, .int .u64 0, .int .u64 0] 72)).alloc (.cells #[.int .u64 (s.writing : Int), .int .u64 (life : Int), .int .u64 (s.first : Int), .int .u64 (s.least : Int)] 72)).drew) := hbV
  have HZV : Hid (Blk ((w.alloc (.cells #[.int .u64 0, .int .u64 0, .int .u64 0, .int .u64 0] 72)).alloc (.cells #[.int .u64 (s.writing : Int), .int .u64 (life : Int), .int .u64 (s.first : Int), .int .u64 (s.least : Int)] 72)).drew w.heap.size #[.int .u64 0, .int .u64 0, .int .u64 0, .int .u64 0] 72) := hzV
  have HPV : Hid (Blk ((w.alloc (.cells #[.int .u64 0, .int .u64 0, .int .u64 0, .int .u64 0] 72)).alloc (.cells #[.int .u64 (s.writing : Int), .int .u64 (life : Int), .int .u64 (s.first : Int), .int .u64 (s.least : Int)] 72)).drew (w.heap.size + 1) #[.int .u64 (s.writing : Int), .int .u64 (life : Int), .int .u64 (s.first : Int), .int .u64 (s.least : Int)] 72) := hpV
  clear hbV hzV hpV H
  have y7 := cellW1 c7
  have y2 := cellW1 p2
  haveI nA := cls_one1 (((w.alloc (.cells #[.int .u64 0, .int .u64 0, .int .u64 0, .int .u64 0] 72)).alloc (.cells #[.int .u64 (s.writing : Int), .int .u64 (life : Int), .int .u64 (s.first : Int), .int .u64 (s.least : Int)] 72)).drew)
  refine wp_region_seg (fun x => x = ((w.alloc (.cells #[.int .u64 0, .int .u64 0, .int .u64 0, .int .u64 0] 72)).alloc (.cells #[.int .u64 (s.writing : Int), .int .u64 (life : Int), .int .u64 (s.first : Int), .int .u64 (s.least : Int)] 72)).drew) (by kernel_rfl) ?_
  refine wpAnyH_seg (by kernel_rfl) (fun _ _ _ h => h) [0, 1, 2, 3, 4, 5, 6] 0 _ _ _ rfl (by kernel_rfl) ?_
  simp only [opsAt, List.getElem?_toArray, List.getElem?_cons_zero, List.getElem?_cons_succ, List.cons_append, List.nil_append]
  repeat (go_big_quiet_step (fail))
  refine wpQuiet_nil ?_
  clear y7 y2 nA c7 p2
  refine wpAnyH_done (by kernel_rfl) (NoPanic.normal ?_) 0
  generalize ((w.alloc (.cells #[.int .u64 0, .int .u64 0, .int .u64 0, .int .u64 0] 72)).alloc (.cells #[.int .u64 (s.writing : Int), .int .u64 (life : Int), .int .u64 (s.first : Int), .int .u64 (s.least : Int)] 72)).drew = V at *
  have z0 : V.cell? ⟨w.heap.size, 0, none⟩ = some (.int .u64 0) := HZV.out.cell 0
  have z1 : V.cell? ⟨w.heap.size, 1, none⟩ = some (.int .u64 0) := HZV.out.cell 1
  have z2 : V.cell? ⟨w.heap.size, 2, none⟩ = some (.int .u64 0) := HZV.out.cell 2
  have z3 : V.cell? ⟨w.heap.size, 3, none⟩ = some (.int .u64 0) := HZV.out.cell 3
  have f0 := HZV.out.frozen 0
  have f1 := HZV.out.frozen 1
  have f2 := HZV.out.frozen 2
  have f3 := HZV.out.frozen 3
  have q0 : V.cell? ⟨w.heap.size + 1, 0, none⟩ = some (.int .u64 (s.writing : Int)) := HPV.out.cell 0
  have q1 : V.cell? ⟨w.heap.size + 1, 1, none⟩ = some (.int .u64 (life : Int)) := HPV.out.cell 1
  have q2 : V.cell? ⟨w.heap.size + 1, 2, none⟩ = some (.int .u64 (s.first : Int)) := HPV.out.cell 2
  have q3 : V.cell? ⟨w.heap.size + 1, 3, none⟩ = some (.int .u64 (s.least : Int)) := HPV.out.cell 3
  by_cases hnf : s.next = s.first
  · have hd : ((s.next : Int) == (s.first : Int)) = true := by rw [hnf]; simp
    have g3 := HPV.out.frozen 3
    have hz := HZV.out.setOther (b' := w.heap.size + 1) 3 (.int .u64 (life : Int)) (by omega)
    have hp := HPV.out.set 3 (.int .u64 (life : Int))
    have HZ2 : Hid (Blk (V.setCell ⟨w.heap.size + 1, 3, none⟩ (.int .u64 (life : Int))) w.heap.size #[.int .u64 0, .int .u64 0, .int .u64 0, .int .u64 0] 72) := hz
    have HB2 : Hid (Below w.heap.size w (V.setCell ⟨w.heap.size + 1, 3, none⟩ (.int .u64 (life : Int)))) := HBV.out.setCell (by show w.heap.size ≤ w.heap.size + 1; omega) _
    have u0 : (V.setCell ⟨w.heap.size + 1, 3, none⟩ (.int .u64 (life : Int))).cell? ⟨w.heap.size + 1, 0, none⟩ = some (.int .u64 (s.writing : Int)) := by rw [hp.cell]; rfl
    have u1 : (V.setCell ⟨w.heap.size + 1, 3, none⟩ (.int .u64 (life : Int))).cell? ⟨w.heap.size + 1, 1, none⟩ = some (.int .u64 (life : Int)) := by rw [hp.cell]; rfl
    have u2 : (V.setCell ⟨w.heap.size + 1, 3, none⟩ (.int .u64 (life : Int))).cell? ⟨w.heap.size + 1, 2, none⟩ = some (.int .u64 (s.first : Int)) := by rw [hp.cell]; rfl
    have u3 : (V.setCell ⟨w.heap.size + 1, 3, none⟩ (.int .u64 (life : Int))).cell? ⟨w.heap.size + 1, 3, none⟩ = some (.int .u64 (life : Int)) := by rw [hp.cell]; rfl
    have v0 : (V.setCell ⟨w.heap.size + 1, 3, none⟩ (.int .u64 (life : Int))).cell? ⟨w.heap.size, 0, none⟩ = some (.int .u64 0) := hz.cell 0
    have v1 : (V.setCell ⟨w.heap.size + 1, 3, none⟩ (.int .u64 (life : Int))).cell? ⟨w.heap.size, 1, none⟩ = some (.int .u64 0) := hz.cell 1
    have v2 : (V.setCell ⟨w.heap.size + 1, 3, none⟩ (.int .u64 (life : Int))).cell? ⟨w.heap.size, 2, none⟩ = some (.int .u64 0) := hz.cell 2
    have v3 : (V.setCell ⟨w.heap.size + 1, 3, none⟩ (.int .u64 (life : Int))).cell? ⟨w.heap.size, 3, none⟩ = some (.int .u64 0) := hz.cell 3
    have w0 := hz.frozen 0
    have w1 := hz.frozen 1
    have w2 := hz.frozen 2
    have w3 := hz.frozen 3
    have HR : Hid ((reb s life).cs = #[.int .u64 (s.writing : Int), .int .u64 (life : Int), .int .u64 (s.first : Int), .int .u64 (life : Int)]) := by
      have : reb s life = ⟨s.writing, life, s.first, life⟩ := by unfold reb; rw [if_pos hnf]
      rw [this]; exact rfl
    clear hz hp
    go_wp2_with fail
    have hb4 := (((HZ2.out.set 0 (.int .u64 (s.writing : Int))).set 1 (.int .u64 (life : Int))).set 2 (.int .u64 (s.first : Int))).set 3 (.int .u64 (life : Int))
    refine bodyPost_ret (results_one (ty := 72) rfl _ _ w.heap.size 72 #[.int .u64 (s.writing : Int), .int .u64 (life : Int), .int .u64 (s.first : Int), .int .u64 (life : Int)] _ rfl (by simpa using hb4) Try.underlying72 rfl (by kernel_rfl)) rfl ?_
    rw [HR.out]
    exact ⟨rfl, (((HB2.out.setCell (Nat.le_refl _) _).setCell (Nat.le_refl _) _).setCell (Nat.le_refl _) _).setCell (Nat.le_refl _) _⟩
  · have hd : ((s.next : Int) == (s.first : Int)) = false := by simp; omega
    have HR : Hid ((reb s life).cs = #[.int .u64 (s.writing : Int), .int .u64 (life : Int), .int .u64 (s.first : Int), .int .u64 (s.least : Int)]) := by
      have : reb s life = ⟨s.writing, life, s.first, s.least⟩ := by unfold reb; rw [if_neg hnf]
      rw [this]; exact rfl
    go_wp2_with fail
    have hb4 := (((HZV.out.set 0 (.int .u64 (s.writing : Int))).set 1 (.int .u64 (life : Int))).set 2 (.int .u64 (s.first : Int))).set 3 (.int .u64 (s.least : Int))
    refine bodyPost_ret (results_one (ty := 72) rfl _ _ w.heap.size 72 #[.int .u64 (s.writing : Int), .int .u64 (life : Int), .int .u64 (s.first : Int), .int .u64 (s.least : Int)] _ rfl (by simpa using hb4) Try.underlying72 rfl (by kernel_rfl)) rfl ?_
    rw [HR.out]
    exact ⟨rfl, (((HBV.out.setCell (Nat.le_refl _) _).setCell (Nat.le_refl _) _).setCell (Nat.le_refl _) _).setCell (Nat.le_refl _) _⟩
end Go.Proofs.Ytepfckckplbjjaa

/- lock: a nil table; a mode that is none. Own lemmas, no statement. -/
import Derived.Test.YtkgecljoodofeaaLkO
set_option linter.unusedSimpArgs false
set_option linter.unusedVariables false
namespace Go.Proofs.Ytkgecljoodofeaa
open Go.ChangeShapes Go.WideShapes Go.ChangeAt Go.RowKit

theorem results_oneL {fn : Func} {p : Tmp} {P : Program} {ty : TypeId} (h : fn.results = #[.cell p ty]) (tmps : Array Value) (w : World) (r : Nat) (t : TypeId) (cs : Array Value) (d : TypeDesc) (hp : tmps.getD p undef = .pointer (some ⟨r, 0, none⟩)) (hg : Blk w r cs t)
    (hu : P.underlying ty = some d) (hd : (match d with | .struct _ | .array _ _ => true | _ => false) = true) (hi : (P.info? ty).map (·.size) = some cs.size) : (results fn tmps).run P w = .ok (.agg cs) w := by
  have e : (results fn tmps).run P w = (do loadVar ty (← asAddr (tmps.getD p undef)) : Sem Value).run P w := by
    unfold results
    simp [h]
  rw [e, hp]
  simp [asAddr, run_loadVar_row w r t ty cs (0, 0) d hg hu hd hi]
theorem line_field (a b : Value) (w : World) : (Instr.field 67 (.agg #[a, b]) 0).run Try.prog w = .ok a w ∧ (Instr.field 67 (.agg #[a, b]) 1).run Try.prog w = .ok b w := ⟨by kernel_rfl, by kernel_rfl⟩
theorem askNil_any (t : Td) (k : ByteArray) (m : Int) (w : World) :
    Calls Try.prog 12 #[.pointer none, .agg #[.int .u64 t.num, .int .i64 t.node], .string k, .int .i64 m] w fun e w' => e = .returned (.int .i64 3) ∧ Ext w w' := by
  go_enter Try.func12, Try.ntmps12
  go_wp2
  go_ret
  exact ⟨rfl, ext_one _⟩
theorem askBad_any (g : Nat) (t : Td) (k : ByteArray) (m : Int) (w : World) (h1 : m ≠ 1) (h2 : m ≠ 2) :
    Calls Try.prog 12 #[.pointer (some ⟨g, 0, none⟩), .agg #[.int .u64 t.num, .int .i64 t.node], .string k, .int .i64 m] w fun e w' => e = .returned (.int .i64 3) ∧ Ext w w' := by
  have e1 : (m == 1) = false := beq_eq_false_iff_ne.2 h1
  have e2 : (m == 2) = false := beq_eq_false_iff_ne.2 h2
  have e3 : (m != 1) = true := by simp [h1]
  have e4 : (m != 2) = true := by simp [h2]
  clear h1 h2
  go_enter Try.func12, Try.ntmps12
  go_wp2
  go_ret
  exact ⟨rfl, ext_one _⟩
theorem touchedNil_any (t : Td) (w : World) :
    Calls Try.prog 34 #[.pointer none, .agg #[.int .u64 t.num, .int .i64 t.node]] w fun e w' => e = .returned (.slice none 0 0) ∧ Ext w w' := by
  go_enter Try.func34, Try.ntmps34
  go_wp2
  go_ret
  exact ⟨rfl, ext_one _⟩
theorem lineNil_any (k : ByteArray) (w : World) :
    Calls Try.prog 38 #[.pointer none, .string k] w fun e w' => e = .returned (.agg #[.slice none 0 0, .slice none 0 0]) ∧ Ext w w' := by
  have HZ : Hid (Blk (w.alloc (.cells #[.slice none 0 0, .slice none 0 0] 67)) w.heap.size #[.slice none 0 0, .slice none 0 0] 67) := Blk.new _ _ _
  have HE : Hid (Ext w (w.alloc (.cells #[.slice none 0 0, .slice none 0 0] 67))) := ext_one _
  go_enter Try.func38, Try.ntmps38
  go_wp2
  refine bodyPost_ret (results_oneL (ty := 67) rfl _ _ w.heap.size 67 #[.slice none 0 0, .slice none 0 0] _ rfl HZ.out Try.underlying67 rfl (by kernel_rfl)) rfl ?_
  exact ⟨rfl, HE.out⟩
theorem cloneNil_any (w : World) :
    Calls Try.prog 37 #[.slice none 0 0] w fun e w' => e = .returned (.slice none 0 0) ∧ Ext w w' := by
  have hnil : (binOp .eql 35 (.slice none 0 0) (.slice none 0 0)).run Try.prog w = .ok (.bool true) w := Lib.run_eql_slice_nil _ 35 55 _ _ _ _ _ Try.underlying35
  go_enter Try.func37, Try.ntmps37
  go_wp2
  go_ret
  exact ⟨rfl, Ext.refl _⟩
set_option maxRecDepth 100000 in
theorem hasNil_any (k : ByteArray) (w : World) :
    Calls Try.prog 18 #[.pointer none, .string k] w fun e w' => e = .returned (.slice none 0 0) ∧ Ext w w' := by
  go_enter Try.func18, Try.ntmps18
  go_wp2_with fail
  refine (lineNil_any k w).mono ?_
  rintro e w1 ⟨rfl, h1⟩
  have H1 : Hid (Ext w w1) := h1
  clear h1
  have hf := line_field (.slice none 0 0) (.slice none 0 0) w1
  obtain ⟨hf, hg⟩ := hf
  go_wp2_with fail
  refine (cloneNil_any w1).mono ?_
  rintro e w2 ⟨rfl, h2⟩
  have H2 : Hid (Ext w w2) := Ext.trans H1.out h2
  clear h2
  go_wp2
  go_ret
  exact ⟨rfl, H2.out⟩
set_option maxRecDepth 100000 in
theorem waitingNil_any (k : ByteArray) (w : World) :
    Calls Try.prog 19 #[.pointer none, .string k] w fun e w' => e = .returned (.slice none 0 0) ∧ Ext w w' := by
  go_enter Try.func19, Try.ntmps19
  go_wp2_with fail
  refine (lineNil_any k w).mono ?_
  rintro e w1 ⟨rfl, h1⟩
  have H1 : Hid (Ext w w1) := h1
  clear h1
  have hf := line_field (.slice none 0 0) (.slice none 0 0) w1
  obtain ⟨hf, hg⟩ := hf
  go_wp2_with fail
  refine (cloneNil_any w1).mono ?_
  rintro e w2 ⟨rfl, h2⟩
  have H2 : Hid (Ext w w2) := Ext.trans H1.out h2
  clear h2
  go_wp2
  go_ret
  exact ⟨rfl, H2.out⟩
theorem lenNil_any (w : World) :
    Calls Try.prog 22 #[.pointer none] w fun e w' => e = .returned (.int .i64 0) ∧ Ext w w' := by
  go_enter Try.func22, Try.ntmps22
  go_wp2
  go_ret
  exact ⟨rfl, Ext.refl _⟩
set_option maxRecDepth 100000 in
theorem freeNil_any (t : Td) (w : World) :
    Calls Try.prog 16 #[.pointer none, .agg #[.int .u64 t.num, .int .i64 t.node]] w fun e w' => e = .returned (.slice none 0 0) ∧ Ext w w' := by
  obtain ⟨w0, hw0⟩ : ∃ w0, w0 = w.alloc (.cells #[.int .u64 t.num, .int .i64 t.node] 29) := ⟨_, rfl⟩
  have HE0 : Hid (Ext w w0) := by rw [hw0]; exact ext_one _
  have b0 : Blk w0 w.heap.size #[.int .u64 t.num, .int .i64 t.node] 29 := by rw [hw0]; exact Blk.new _ _ _
  have c0 : w0.cell? ⟨w.heap.size, 0, none⟩ = some (.int .u64 t.num) := b0.cell 0
  have c1 : w0.cell? ⟨w.heap.size, 1, none⟩ = some (.int .i64 t.node) := b0.cell 1
  clear b0
  go_enter Try.func16, Try.ntmps16
  go_upto_region 2 with fail
  rw [← hw0]
  clear hw0
  go_wp2_with fail
  refine (touchedNil_any t w0).mono ?_
  rintro e w1 ⟨rfl, h1⟩
  have H1 : Hid (Ext w w1) := Ext.trans HE0.out h1
  clear h1 c0 c1
  go_wp2
  go_loopw [5, 15] (fun vo vi wr => vo = .slice none 0 0 ∧ vi = .int .i64 0 ∧ Ext w wr) (fun _ vi _ => 0)
  case atStart => exact ⟨rfl, rfl, H1.out⟩
  case round =>
    obtain ⟨rfl, rfl, hE⟩ := hrel
    have HE : Hid (Ext w wr) := hE
    clear hE
    go_wp2
    go_ret
    exact ⟨rfl, HE.out⟩
theorem idxSNil_any (f : Value) (w : World) :
    Calls Try.prog 54 #[.slice none 0 0, f] w fun e w' => e = .returned (.int .i64 (-1)) ∧ Ext w w' := by
  go_enter Try.func54, Try.ntmps54
  go_wp2
  go_loopw [8] (fun vi wr => vi = .int .i64 0 ∧ Ext w wr) (fun vi _ => 0)
  case atStart => exact ⟨rfl, Ext.refl _⟩
  case round =>
    obtain ⟨rfl, hE⟩ := hrel
    have HE : Hid (Ext w wr) := hE
    clear hE
    go_wp2
    go_ret
    exact ⟨rfl, HE.out⟩
theorem delSNil_any (f : Value) (w : World) :
    Calls Try.prog 39 #[.slice none 0 0, f] w fun e w' => e = .returned (.slice none 0 0) ∧ Ext w w' := by
  go_enter Try.func39, Try.ntmps39
  go_wp2_with fail
  refine (idxSNil_any f w).mono ?_
  rintro e w1 ⟨rfl, h1⟩
  have H1 : Hid (Ext w w1) := h1
  clear h1
  go_wp2
  go_ret
  exact ⟨rfl, H1.out⟩
set_option maxRecDepth 100000 in
theorem keysNil_any (t : Td) (w : World) :
    Calls Try.prog 21 #[.pointer none, .agg #[.int .u64 t.num, .int .i64 t.node]] w fun e w' => e = .returned (.slice none 0 0) ∧ Ext w w' := by
  obtain ⟨wa, hwa⟩ : ∃ wa, wa = w.alloc (.cells #[.pointer none] 24) := ⟨_, rfl⟩
  obtain ⟨w0, hw0⟩ : ∃ w0, w0 = wa.alloc (.cells #[.int .u64 t.num, .int .i64 t.node] 29) := ⟨_, rfl⟩
  have HE0 : Hid (Ext w w0) := by rw [hw0, hwa]; exact ext_two _ _
  have b0 : Blk w0 w.heap.size #[.pointer none] 24 := by rw [hw0, hwa]; exact (Blk.new _ _ _).alloc _
  have b1 : Blk w0 wa.heap.size #[.int .u64 t.num, .int .i64 t.node] 29 := by rw [hw0]; exact Blk.new _ _ _
  have c0 : w0.cell? ⟨w.heap.size, 0, none⟩ = some (.pointer none) := b0.cell 0
  have c1 : w0.cell? ⟨wa.heap.size, 0, none⟩ = some (.int .u64 t.num) := b1.cell 0
  have c2 : w0.cell? ⟨wa.heap.size, 1, none⟩ = some (.int .i64 t.node) := b1.cell 1
  have hsz : wa.heap.size = w.heap.size + 1 := by rw [hwa]; simp
  rw [hwa] at hw0
  rw [hsz] at c1 c2
  clear b0 b1 hwa hsz
  go_enter Try.func21, Try.ntmps21
  go_upto_region 1 with fail
  rw [← hw0]
  clear hw0
  go_wp2_with fail
  refine (touchedNil_any t w0).mono ?_
  rintro e w1 ⟨rfl, h1⟩
  have H1 : Hid (Ext w w1) := Ext.trans HE0.out h1
  clear h1 c0 c1 c2
  go_wp2_with fail
  refine (delSNil_any _ w1).mono ?_
  rintro e w2 ⟨rfl, h2⟩
  have H2 : Hid (Ext w w2) := Ext.trans H1.out h2
  clear h2
  go_wp2
  go_ret
  exact ⟨rfl, H2.out⟩
end Go.Proofs.Ytkgecljoodofeaa

/- WalErrors: what can't be opened, appended, cut; a nil log. Own walk, no statement. -/
import Derived.Test.YtepfckckplbjjaaWalN
namespace Go.Proofs.Ytepfckckplbjjaa
open Go.ChangeShapes Go.WideShapes Go.ChangeAt Go.RowKit Go Go.Shelf
attribute [local go_sem] Oper.semAt_some

def zlist (n : Nat) : List UInt8 := List.replicate n 0
theorem zlist_length (n : Nat) : (zlist n).length = n := List.length_replicate
def zrow (n : Nat) : Array Value := (bv (zlist n)).toArray
/-- The law's own result box, and what was there. -/
def ErX (w W : World) : Prop := Boxed W w.heap.size 4 (.bool false) ∧ Below w.heap.size w W
theorem ErX.below {w W W' : World} (h : ErX w W) (hb : Below W.heap.size W W') : ErX w W' := ⟨(hb.block _ h.1.lt).trans h.1, h.2.trans (hb.mono h.2.size)⟩

theorem erX_own {w : World} {B : Nat} (hB : w.heap.size ≤ B) : OwnFrom B (fun (_ : List Ent) W => ErX w W) := OwnFrom.and boxed_abide (ownFrom_below (Nat.le_refl _) hB)
/-- A range over an iterator that hands over nothing. -/
theorem wpIn_range_none {F : Fence} {n : Nat} {P : Program} {α : Type} {g : Operand} {ps : Array Tmp} {body : Code} {Q : Exit → Act → World → Prop} {a : Act} {w : World}
    (hro : F.round = none) (h1 : 1 ≤ n) {gf : Nat} {lb : Array Value} (hg : a.eval g = .func (.func gf) #[] lb) (hFg : F.fn gf) (eg : ∀ args w, (callFunc gf args).run P w = .ok (.enter gf args) w)
    {encs : α → Array Value} (hseq : SeqGood F (n - 1) P gf lb encs (fun _ _ => False) (fun _ _ _ => True) (fun xs => xs = []) (fun _ => False) 0 w) (hps : ∀ x, (encs x).size = ps.size)
    (I : World → Prop) (hI : OwnFrom w.heap.size (fun (_ : List α) W => I W)) (h0 : I w)
    (hdone : ∀ (D : Nat) (W : World), w.heap.size ≤ D → I W → W.heap[D]? = some (.deferred (some [])) → Q .normal { a with defers := { target := .collected D, args := #[] } :: a.defers } W) :
    (Code.rangeFunc g ps Code.skip body).wpIn F n P Q a w :=
  wpIn_range_good hro h1 hg hFg eg hseq (fun _ _ _ _ _ _ _ _ _ _ _ _ _ h _ => h.elim) (fun _ _ _ _ _ _ _ h => h) (Below.refl _ _) hps (fun _ W => I W) (fun _ _ _ => False) hI (fun _ _ _ _ _ hs _ _ => hs) h0
    (fun x => { tmps := (ps.zip (encs x)).foldl (fun t (p, v) => t.setIfInBounds p v) a.tmps, defers := [] })
    (fun _ _ _ _ hK => wpIn_skip hK) (fun _ _ _ _ _ h _ => h.elim) (fun D _ W hD _ hi hk => hdone D W hD hi hk) (fun _ _ _ _ _ h _ _ => h.elim)

set_option maxRecDepth 100000 in
set_option maxHeartbeats 8000000 in
theorem walk_WalErrors (from_ n lsn : Int) (w : World) (h1 : (Lit.int .i64 from_).wf = true) (h2 : (Lit.int .i64 n).wf = true) (_h3 : (Lit.int .u64 lsn).wf = true) :
    Calls Try.prog 7 #[.int .i64 from_, .int .i64 n, .int .u64 lsn] w fun e w' => e = .returned (.bool true) ∧ Below w.heap.size w w' := by
  have hfb : -9223372036854775808 ≤ from_ ∧ from_ < 9223372036854775808 := by
    have h1 : IntKind.i64.min ≤ from_ ∧ from_ ≤ 9223372036854775807 := by simpa [Lit.wf] using h1
    have h2 : IntKind.i64.min = -9223372036854775808 := rfl
    omega
  have hnb : -9223372036854775808 ≤ n ∧ n < 9223372036854775808 := by
    have h1 : IntKind.i64.min ≤ n ∧ n ≤ 9223372036854775807 := by simpa [Lit.wf] using h2
    have h2 : IntKind.i64.min = -9223372036854775808 := rfl
    omega
  have hX0 : ErX w (w.alloc (.cells #[.bool false] 4)) := ⟨Boxed.new _ _ _, (Below.refl _ _).alloc (Nat.le_refl _) _⟩
  have HX0 : Hid (ErX w (w.alloc (.cells #[.bool false] 4))) := hX0
  clear hX0
  refine (callsIn_wide (n := 6)).1 ?_
  refine callsIn_of_wp_marks Try.func7 rfl trivial ?_ rfl
  simp only [Try.ntmps7, List.size_toArray, List.length_cons, List.length_nil, Nat.reduceAdd, Nat.reduceSub, Array.replicate_succ, Array.replicate_zero, List.push_toArray, List.append_toArray, List.nil_append, List.cons_append]
  gi_wp2
  generalize w.alloc (.cells #[.bool false] 4) = W0 at *
  refine ⟨trivial, ?_⟩
  refine (callsIn_wide.2 (head5_any _)).mono ?_
  rintro e w1 ⟨rfl, hb1⟩
  have HB1 : Hid (Below W0.heap.size W0 w1) := hb1
  have hnew := new_new 50 50 (nSec_of (n := 50) (by omega)) W0 W0.heap.size w1 HB1.out (Nat.le_refl _)
  have HN : Hid (Calls _ _ _ _ _) := hnew
  clear hb1 hnew
  gi_wp2
  refine ⟨trivial, ?_⟩
  refine (callsIn_wide.2 HN.out).mono ?_
  rintro e w2 ⟨gd, f2, rfl, hD2, -, hb2⟩
  have HB2 : Hid (Below W0.heap.size W0 w2) := hD2.bel
  have hptr := hD2.ptr
  subst hptr
  have HD2 : Hid (NewAt W0 W0.heap.size w2 f2.g f2 _) := hD2
  clear hD2 hb2 HN HB1
  rcases (show n ≤ 2 ∨ (2 < n ∧ from_ < 0) ∨ (2 < n ∧ 0 ≤ from_ ∧ 50 < from_) ∨ (2 < n ∧ 0 ≤ from_ ∧ from_ ≤ 50 ∧ 50 - from_ < n) ∨ (2 < n ∧ 0 ≤ from_ ∧ from_ ≤ 50 ∧ n ≤ 50 - from_) by omega) with h | ⟨ha, h⟩ | ⟨ha, hb, h⟩ | ⟨ha, hb, hc, h⟩ | ⟨ha, hb, hc, h⟩
  · unfold dptr
    gi_wp2
    refine ⟨trivial, ?_⟩
    refine (callsIn_wide.2 (open_arg HD2.out.at_ from_ n (by show n ≤ 2 ∨ from_ < 0 ∨ ((List.replicate 50 (zeros, false)).length : Int) - n < from_; rw [List.length_replicate]; omega) hnb.2)).mono ?_
    rintro e w3 ⟨rfl, hw⟩
    subst hw
    have HB3 : Hid (Below W0.heap.size W0 w3) := HB2.out
    clear HB2 HD2
    gi_wp2
    clear h
    have hnew := new_new 50 50 (nSec_of (n := 50) (by omega)) W0 W0.heap.size w3 HB3.out (Nat.le_refl _)
    refine ⟨trivial, ?_⟩
    refine (callsIn_wide.2 hnew).mono ?_
    rintro e w4 ⟨gc, f4, rfl, hD4, -, -⟩
    have hop := ws_fresh (from_ := 0) (room := 48) hD4 (by omega) (by omega) (by omega)
    have HOP : Hid (Calls Try.prog 16 #[dptr gc, .int .i64 0, .int .i64 50] w4 _) := hop
    clear hnew hop hD4 HB3
    unfold dptr at *
    gi_wp2
    refine ⟨trivial, ?_⟩
    refine (callsIn_wide.2 HOP.out).mono ?_
    rintro e w5 ⟨g5, f5, st5, lf5, rfl, -, hW5, hg5, hF5⟩
    have HW5 : Hid (WS W0 W0.heap.size w5 g5 f5 (s10 0 48) st5) := hW5
    have HF5 : Hid (Fresh1 0 48 50 st5 lf5) := hF5
    have HG5 : Hid (f5.g = gc) := hg5
    have hmk1 : (Instr.makeSlice 41 (.int .i64 16385) (.int .i64 16385)).run Try.prog w5 = .ok (.slice (some ⟨w5.heap.size, 0, none⟩) 16385 16385) (w5.alloc (.cells (zrow 16385) 5)) := run_makeB 16385 (by omega) w5
    have hAA : ∀ W : World, Calls Try.prog 18 #[lptr g5, .slice (some ⟨w5.heap.size, 0, none⟩) 16385 16385] W fun e w' => e = .returned (.tuple #[.int .u64 0, .int .i64 1]) ∧ w' = W := fun W => append_arg g5 (some ⟨w5.heap.size, 0, none⟩) 16385 16385 W (by omega)
    have HAA : Hid (∀ W : World, Calls Try.prog 18 #[lptr g5, .slice (some ⟨w5.heap.size, 0, none⟩) 16385 16385] W _) := hAA
    clear hW5 hF5 hg5 HOP hAA
    unfold lptr at *
    gi_wp2
    refine ⟨trivial, ?_⟩
    refine (callsIn_wide.2 (HAA.out _)).mono ?_
    rintro e w6 ⟨rfl, hw6⟩
    have hb6 : Below w5.heap.size w5 w6 := by rw [hw6]; exact (Below.refl _ _).alloc (Nat.le_refl _) _
    have HW6 : Hid (WS W0 W0.heap.size w6 g5 f5 (s10 0 48) st5) := HW5.out.below hb6
    have hmk2 : (Instr.makeSlice 41 (.int .i64 16384) (.int .i64 16384)).run Try.prog w6 = .ok (.slice (some ⟨w6.heap.size, 0, none⟩) 16384 16384) (w6.alloc (.cells (zrow 16384) 5)) := run_makeB 16384 (by omega) w6
    have hbe : Below w6.heap.size w6 (w6.alloc (.cells (zrow 16384) 5)) := (Below.refl _ _).alloc (Nat.le_refl _) _
    have hsrc : Src (w6.alloc (.cells (zrow 16384) 5)) (.slice (some ⟨w6.heap.size, 0, none⟩) 16384 16384) (zlist 16384) := by
      have := Blk.src (k := 16384) (c := 16384) (l := zlist 16384) (Blk.new w6 (zrow 16384) 5) (by rw [zlist_length]; exact Nat.le_refl _) (Nat.le_refl _) (by unfold maxLen; omega)
      rw [List.take_of_length_le (by rw [zlist_length]; exact Nat.le_refl _)] at this
      exact this
    have hlz : (zlist 16384).length = 16384 := zlist_length _
    have hn35 : needN 16384 = 35 := rfl
    have hst5 := HF5.out.steps
    have hwt5 : st5.waits.length = 0 := by rw [HF5.out.waits]; rfl
    have hap := ws_append (n1 := w6.heap.size) (HW6.out.below hbe) HF5.out.l hsrc ⟨HW6.out.wl.lt.2, HW6.out.wl.lt.1⟩ (fun ad e _ => by cases e; exact .inr (Nat.le_refl _)) (by omega) (by rw [hlz, hn35]; show 35 ≤ 48 - (0 - 0); omega) (by show (0 : Nat) < _; omega) (by show (1 : Nat) ≤ _; omega) (by omega) (by omega)
    obtain ⟨q1, q2, q3⟩ := apTo_len (s10 0 48) (zlist 16384) (needN (zlist 16384).length) st5 (needN (zlist 16384).length)
    rw [hlz, hn35] at hap q1 q2 q3
    have hlen5 := HF5.out.len
    generalize (apTo (s10 0 48) (zlist 16384) 35 st5 35).2 = st7 at *
    have HAP : Hid (Calls _ _ _ _ _) := hap
    have HQ7 : Hid (st7.now.length = 50 ∧ st7.steps < 1000 ∧ st7.waits.length < 1000) := ⟨by omega, by omega, by omega⟩
    clear hap hsrc hlz hn35 hw6 hb6 hmk1 hbe HAA HW5 HF5 HW6 q1 q2 q3 hst5 hwt5 hlen5
    unfold lptr at HAP
    gi_wp2
    refine ⟨trivial, ?_⟩
    refine (callsIn_wide.2 HAP.out).mono ?_
    rintro e w7 ⟨f7, rfl, hW7, hg7⟩
    have HW7 : Hid (WS W0 W0.heap.size w7 g5 f7 ⟨0, 48, 1, 1, 0, 1, 0 + 35, 0⟩ st7) := hW7
    have HG7 : Hid (f7.g = gc) := hg7.trans HG5.out
    have HCA : Hid (Calls Try.prog 20 #[lptr g5, .int .u64 36] w7 _) := cut_arg hW7.wl 36 (.inr (by show 0 + 35 < 36; omega))
    clear hW7 hg7 HAP hmk2 HG5
    unfold lptr at HCA
    gi_wp2
    refine ⟨trivial, ?_⟩
    refine (callsIn_wide.2 HCA.out).mono ?_
    rintro e w' ⟨rfl, hw⟩; rw [hw]; clear hw w'
    have hof := off_any f7 st7 w7 HW7.out.wl.d
    rw [HG7.out] at hof
    have HOF : Hid (Calls _ _ _ _ _) := hof
    clear hof HCA
    unfold dptr at HOF
    gi_wp2
    refine ⟨trivial, ?_⟩
    refine (callsIn_wide.2 HOF.out).mono ?_
    rintro e w8 ⟨rfl, hD8, hc8⟩
    have hB8 : Below W0.heap.size W0 w8 := HW7.out.bel.trans (hc8.below HW7.out.sz (fun k e => by rw [e]; exact HW7.out.own _ (.inl (.inl HG7.out.symm))))
    have hod := open_down (st := { st7 with down := true }) hD8 rfl 0 48 (by omega) (by show 0 + 2 + 48 ≤ st7.now.length; have := HQ7.out.1; omega) (by show st7.steps < _; have := HQ7.out.2.1; omega) (by show st7.waits.length < _; have := HQ7.out.2.2; omega)
    rw [HG7.out] at hod
    have HOD : Hid (Calls Try.prog 16 #[dptr gc, .int .i64 0, .int .i64 50] w8 _) := hod
    have HB8 : Hid (Below W0.heap.size W0 w8) := hB8
    clear hD8 hc8 hB8 hod HOF HW7 HG7 HQ7
    unfold dptr at HOD
    gi_wp2
    refine ⟨trivial, ?_⟩
    refine (callsIn_wide.2 HOD.out).mono ?_
    rintro e w9 ⟨rfl, hb9⟩
    have HB9 : Hid (Below W0.heap.size W0 w9) := HB8.out.trans (hb9.mono HB8.out.size)
    clear hb9 HB8 HOD
    gi_wp2
    refine ⟨trivial, ?_⟩
    refine (callsIn_wide.2 (append_nil _ _ _ _)).mono ?_
    rintro e w' ⟨rfl, hw⟩; rw [hw]; clear hw w'
    gi_wp2
    refine ⟨trivial, ?_⟩
    refine (callsIn_wide.2 (allN_any lsn w9)).mono ?_
    rintro e w10 ⟨rfl, hw10⟩
    have hb10 : Below w9.heap.size w9 w10 := by rw [hw10]; exact ((Below.refl _ _).alloc (Nat.le_refl _) _).alloc (by simp) _
    have hx10 : Boxed w10 w9.heap.size 28 (.pointer none) := by rw [hw10]; exact (Boxed.new w9 28 (.pointer none)).alloc _
    have HX10 : Hid (Boxed w10 w9.heap.size 28 (.pointer none) ∧ ErX w w10) := ⟨hx10, HX0.out.below (HB9.out.trans (hb10.mono HB9.out.size))⟩
    clear hw10 hb10 hx10 HB9
    gi_wp2
    refine wpIn_range_none (n := 6) (F := Fence.wide) rfl (by omega) (gf := 53) (lb := #[.pointer (some ⟨w9.heap.size, 0, none⟩), .pointer (some ⟨w9.heap.size + 1, 0, none⟩)]) rfl trivial (enters_of Try.func53 (by kernel_rfl) rfl) (encs := encE) (allN_good (n := 5) (by omega) HX10.out.1) (fun _ => rfl) (fun W => ErX w W) (erX_own HX10.out.2.2.size) HX10.out.2 ?done0
    rintro D W hD hI hK
    have c6 := hI.1.cell
    have f6 := hI.1.frozen
    have HE : Hid (ErX w W) := hI
    have HB10 : Hid (w.heap.size ≤ w10.heap.size) := HX10.out.2.2.size
    clear hI HX10
    gi_wp2_with (first | (refine ⟨trivial, ?_⟩; gi_at_call 19; refine (callsIn_wide.2 (force_nil _)).mono ?_; rintro e w' ⟨rfl, hw⟩; rw [hw]; clear hw w') | (refine ⟨trivial, ?_⟩; gi_at_call 20; refine (callsIn_wide.2 (cut_nil _ _)).mono ?_; rintro e w' ⟨rfl, hw⟩; rw [hw]; clear hw w') | (refine ⟨trivial, ?_⟩; gi_at_call 26; refine (callsIn_wide.2 (free_nil _)).mono ?_; rintro e w' ⟨rfl, hw⟩; rw [hw]; clear hw w') | (refine ⟨trivial, ?_⟩; gi_at_call 27; refine (callsIn_wide.2 (room_nil _)).mono ?_; rintro e w' ⟨rfl, hw⟩; rw [hw]; clear hw w') | (refine ⟨trivial, ?_⟩; gi_at_call 24; refine (callsIn_wide.2 (start_nil _)).mono ?_; rintro e w' ⟨rfl, hw⟩; rw [hw]; clear hw w') | (refine ⟨trivial, ?_⟩; gi_at_call 25; refine (callsIn_wide.2 (next_nil _)).mono ?_; rintro e w' ⟨rfl, hw⟩; rw [hw]; clear hw w') | (refine ⟨trivial, ?_⟩; gi_at_call 31; refine (callsIn_wide.2 (safe_nil _)).mono ?_; rintro e w' ⟨rfl, hw⟩; rw [hw]; clear hw w') | (refine ⟨trivial, ?_⟩; gi_at_call 28; refine (callsIn_wide.2 (life_nil _)).mono ?_; rintro e w' ⟨rfl, hw⟩; rw [hw]; clear hw w'))
    have hK' := (KeepsOthers.setCell W ⟨w.heap.size, 0, none⟩ (.bool true)).same D _ hK rfl
    refine ⟨by simp, .inl ⟨_, _, rfl, run_takeDeferred hK', ?_⟩⟩
    have hc5 := cell_kept (World.cell?_setCell_same' W ⟨w.heap.size, 0, none⟩ (.bool true) (by rw [c6]; rfl)) (grownBy_putObj' _ D (.deferred none)) (fun r e => by cases e; exact ⟨_, hK', rfl⟩)
    refine ⟨.bool true, ?_, rfl, (HE.out.2.setCell (p := ⟨w.heap.size, 0, none⟩) (Nat.le_refl _) _).trans (belowK_b (w := w) (Nat.le_refl _) _ D _ _ (by have := HE.out.2.size; have := HB10.out; omega) hK' rfl rfl)⟩
    simp [results, Try.f7, go_sem, hc5]
  · unfold dptr
    gi_wp2
    refine ⟨trivial, ?_⟩
    refine (callsIn_wide.2 (open_arg HD2.out.at_ from_ n (by show n ≤ 2 ∨ from_ < 0 ∨ ((List.replicate 50 (zeros, false)).length : Int) - n < from_; rw [List.length_replicate]; omega) hnb.2)).mono ?_
    rintro e w3 ⟨rfl, hw⟩
    subst hw
    have HB3 : Hid (Below W0.heap.size W0 w3) := HB2.out
    clear HB2 HD2
    gi_wp2
    clear h
    clear ha
    have hnew := new_new 50 50 (nSec_of (n := 50) (by omega)) W0 W0.heap.size w3 HB3.out (Nat.le_refl _)
    refine ⟨trivial, ?_⟩
    refine (callsIn_wide.2 hnew).mono ?_
    rintro e w4 ⟨gc, f4, rfl, hD4, -, -⟩
    have hop := ws_fresh (from_ := 0) (room := 48) hD4 (by omega) (by omega) (by omega)
    have HOP : Hid (Calls Try.prog 16 #[dptr gc, .int .i64 0, .int .i64 50] w4 _) := hop
    clear hnew hop hD4 HB3
    unfold dptr at *
    gi_wp2
    refine ⟨trivial, ?_⟩
    refine (callsIn_wide.2 HOP.out).mono ?_
    rintro e w5 ⟨g5, f5, st5, lf5, rfl, -, hW5, hg5, hF5⟩
    have HW5 : Hid (WS W0 W0.heap.size w5 g5 f5 (s10 0 48) st5) := hW5
    have HF5 : Hid (Fresh1 0 48 50 st5 lf5) := hF5
    have HG5 : Hid (f5.g = gc) := hg5
    have hmk1 : (Instr.makeSlice 41 (.int .i64 16385) (.int .i64 16385)).run Try.prog w5 = .ok (.slice (some ⟨w5.heap.size, 0, none⟩) 16385 16385) (w5.alloc (.cells (zrow 16385) 5)) := run_makeB 16385 (by omega) w5
    have hAA : ∀ W : World, Calls Try.prog 18 #[lptr g5, .slice (some ⟨w5.heap.size, 0, none⟩) 16385 16385] W fun e w' => e = .returned (.tuple #[.int .u64 0, .int .i64 1]) ∧ w' = W := fun W => append_arg g5 (some ⟨w5.heap.size, 0, none⟩) 16385 16385 W (by omega)
    have HAA : Hid (∀ W : World, Calls Try.prog 18 #[lptr g5, .slice (some ⟨w5.heap.size, 0, none⟩) 16385 16385] W _) := hAA
    clear hW5 hF5 hg5 HOP hAA
    unfold lptr at *
    gi_wp2
    refine ⟨trivial, ?_⟩
    refine (callsIn_wide.2 (HAA.out _)).mono ?_
    rintro e w6 ⟨rfl, hw6⟩
    have hb6 : Below w5.heap.size w5 w6 := by rw [hw6]; exact (Below.refl _ _).alloc (Nat.le_refl _) _
    have HW6 : Hid (WS W0 W0.heap.size w6 g5 f5 (s10 0 48) st5) := HW5.out.below hb6
    have hmk2 : (Instr.makeSlice 41 (.int .i64 16384) (.int .i64 16384)).run Try.prog w6 = .ok (.slice (some ⟨w6.heap.size, 0, none⟩) 16384 16384) (w6.alloc (.cells (zrow 16384) 5)) := run_makeB 16384 (by omega) w6
    have hbe : Below w6.heap.size w6 (w6.alloc (.cells (zrow 16384) 5)) := (Below.refl _ _).alloc (Nat.le_refl _) _
    have hsrc : Src (w6.alloc (.cells (zrow 16384) 5)) (.slice (some ⟨w6.heap.size, 0, none⟩) 16384 16384) (zlist 16384) := by
      have := Blk.src (k := 16384) (c := 16384) (l := zlist 16384) (Blk.new w6 (zrow 16384) 5) (by rw [zlist_length]; exact Nat.le_refl _) (Nat.le_refl _) (by unfold maxLen; omega)
      rw [List.take_of_length_le (by rw [zlist_length]; exact Nat.le_refl _)] at this
      exact this
    have hlz : (zlist 16384).length = 16384 := zlist_length _
    have hn35 : needN 16384 = 35 := rfl
    have hst5 := HF5.out.steps
    have hwt5 : st5.waits.length = 0 := by rw [HF5.out.waits]; rfl
    have hap := ws_append (n1 := w6.heap.size) (HW6.out.below hbe) HF5.out.l hsrc ⟨HW6.out.wl.lt.2, HW6.out.wl.lt.1⟩ (fun ad e _ => by cases e; exact .inr (Nat.le_refl _)) (by omega) (by rw [hlz, hn35]; show 35 ≤ 48 - (0 - 0); omega) (by show (0 : Nat) < _; omega) (by show (1 : Nat) ≤ _; omega) (by omega) (by omega)
    obtain ⟨q1, q2, q3⟩ := apTo_len (s10 0 48) (zlist 16384) (needN (zlist 16384).length) st5 (needN (zlist 16384).length)
    rw [hlz, hn35] at hap q1 q2 q3
    have hlen5 := HF5.out.len
    generalize (apTo (s10 0 48) (zlist 16384) 35 st5 35).2 = st7 at *
    have HAP : Hid (Calls _ _ _ _ _) := hap
    have HQ7 : Hid (st7.now.length = 50 ∧ st7.steps < 1000 ∧ st7.waits.length < 1000) := ⟨by omega, by omega, by omega⟩
    clear hap hsrc hlz hn35 hw6 hb6 hmk1 hbe HAA HW5 HF5 HW6 q1 q2 q3 hst5 hwt5 hlen5
    unfold lptr at HAP
    gi_wp2
    refine ⟨trivial, ?_⟩
    refine (callsIn_wide.2 HAP.out).mono ?_
    rintro e w7 ⟨f7, rfl, hW7, hg7⟩
    have HW7 : Hid (WS W0 W0.heap.size w7 g5 f7 ⟨0, 48, 1, 1, 0, 1, 0 + 35, 0⟩ st7) := hW7
    have HG7 : Hid (f7.g = gc) := hg7.trans HG5.out
    have HCA : Hid (Calls Try.prog 20 #[lptr g5, .int .u64 36] w7 _) := cut_arg hW7.wl 36 (.inr (by show 0 + 35 < 36; omega))
    clear hW7 hg7 HAP hmk2 HG5
    unfold lptr at HCA
    gi_wp2
    refine ⟨trivial, ?_⟩
    refine (callsIn_wide.2 HCA.out).mono ?_
    rintro e w' ⟨rfl, hw⟩; rw [hw]; clear hw w'
    have hof := off_any f7 st7 w7 HW7.out.wl.d
    rw [HG7.out] at hof
    have HOF : Hid (Calls _ _ _ _ _) := hof
    clear hof HCA
    unfold dptr at HOF
    gi_wp2
    refine ⟨trivial, ?_⟩
    refine (callsIn_wide.2 HOF.out).mono ?_
    rintro e w8 ⟨rfl, hD8, hc8⟩
    have hB8 : Below W0.heap.size W0 w8 := HW7.out.bel.trans (hc8.below HW7.out.sz (fun k e => by rw [e]; exact HW7.out.own _ (.inl (.inl HG7.out.symm))))
    have hod := open_down (st := { st7 with down := true }) hD8 rfl 0 48 (by omega) (by show 0 + 2 + 48 ≤ st7.now.length; have := HQ7.out.1; omega) (by show st7.steps < _; have := HQ7.out.2.1; omega) (by show st7.waits.length < _; have := HQ7.out.2.2; omega)
    rw [HG7.out] at hod
    have HOD : Hid (Calls Try.prog 16 #[dptr gc, .int .i64 0, .int .i64 50] w8 _) := hod
    have HB8 : Hid (Below W0.heap.size W0 w8) := hB8
    clear hD8 hc8 hB8 hod HOF HW7 HG7 HQ7
    unfold dptr at HOD
    gi_wp2
    refine ⟨trivial, ?_⟩
    refine (callsIn_wide.2 HOD.out).mono ?_
    rintro e w9 ⟨rfl, hb9⟩
    have HB9 : Hid (Below W0.heap.size W0 w9) := HB8.out.trans (hb9.mono HB8.out.size)
    clear hb9 HB8 HOD
    gi_wp2
    refine ⟨trivial, ?_⟩
    refine (callsIn_wide.2 (append_nil _ _ _ _)).mono ?_
    rintro e w' ⟨rfl, hw⟩; rw [hw]; clear hw w'
    gi_wp2
    refine ⟨trivial, ?_⟩
    refine (callsIn_wide.2 (allN_any lsn w9)).mono ?_
    rintro e w10 ⟨rfl, hw10⟩
    have hb10 : Below w9.heap.size w9 w10 := by rw [hw10]; exact ((Below.refl _ _).alloc (Nat.le_refl _) _).alloc (by simp) _
    have hx10 : Boxed w10 w9.heap.size 28 (.pointer none) := by rw [hw10]; exact (Boxed.new w9 28 (.pointer none)).alloc _
    have HX10 : Hid (Boxed w10 w9.heap.size 28 (.pointer none) ∧ ErX w w10) := ⟨hx10, HX0.out.below (HB9.out.trans (hb10.mono HB9.out.size))⟩
    clear hw10 hb10 hx10 HB9
    gi_wp2
    refine wpIn_range_none (n := 6) (F := Fence.wide) rfl (by omega) (gf := 53) (lb := #[.pointer (some ⟨w9.heap.size, 0, none⟩), .pointer (some ⟨w9.heap.size + 1, 0, none⟩)]) rfl trivial (enters_of Try.func53 (by kernel_rfl) rfl) (encs := encE) (allN_good (n := 5) (by omega) HX10.out.1) (fun _ => rfl) (fun W => ErX w W) (erX_own HX10.out.2.2.size) HX10.out.2 ?done1
    rintro D W hD hI hK
    have c6 := hI.1.cell
    have f6 := hI.1.frozen
    have HE : Hid (ErX w W) := hI
    have HB10 : Hid (w.heap.size ≤ w10.heap.size) := HX10.out.2.2.size
    clear hI HX10
    gi_wp2_with (first | (refine ⟨trivial, ?_⟩; gi_at_call 19; refine (callsIn_wide.2 (force_nil _)).mono ?_; rintro e w' ⟨rfl, hw⟩; rw [hw]; clear hw w') | (refine ⟨trivial, ?_⟩; gi_at_call 20; refine (callsIn_wide.2 (cut_nil _ _)).mono ?_; rintro e w' ⟨rfl, hw⟩; rw [hw]; clear hw w') | (refine ⟨trivial, ?_⟩; gi_at_call 26; refine (callsIn_wide.2 (free_nil _)).mono ?_; rintro e w' ⟨rfl, hw⟩; rw [hw]; clear hw w') | (refine ⟨trivial, ?_⟩; gi_at_call 27; refine (callsIn_wide.2 (room_nil _)).mono ?_; rintro e w' ⟨rfl, hw⟩; rw [hw]; clear hw w') | (refine ⟨trivial, ?_⟩; gi_at_call 24; refine (callsIn_wide.2 (start_nil _)).mono ?_; rintro e w' ⟨rfl, hw⟩; rw [hw]; clear hw w') | (refine ⟨trivial, ?_⟩; gi_at_call 25; refine (callsIn_wide.2 (next_nil _)).mono ?_; rintro e w' ⟨rfl, hw⟩; rw [hw]; clear hw w') | (refine ⟨trivial, ?_⟩; gi_at_call 31; refine (callsIn_wide.2 (safe_nil _)).mono ?_; rintro e w' ⟨rfl, hw⟩; rw [hw]; clear hw w') | (refine ⟨trivial, ?_⟩; gi_at_call 28; refine (callsIn_wide.2 (life_nil _)).mono ?_; rintro e w' ⟨rfl, hw⟩; rw [hw]; clear hw w'))
    have hK' := (KeepsOthers.setCell W ⟨w.heap.size, 0, none⟩ (.bool true)).same D _ hK rfl
    refine ⟨by simp, .inl ⟨_, _, rfl, run_takeDeferred hK', ?_⟩⟩
    have hc5 := cell_kept (World.cell?_setCell_same' W ⟨w.heap.size, 0, none⟩ (.bool true) (by rw [c6]; rfl)) (grownBy_putObj' _ D (.deferred none)) (fun r e => by cases e; exact ⟨_, hK', rfl⟩)
    refine ⟨.bool true, ?_, rfl, (HE.out.2.setCell (p := ⟨w.heap.size, 0, none⟩) (Nat.le_refl _) _).trans (belowK_b (w := w) (Nat.le_refl _) _ D _ _ (by have := HE.out.2.size; have := HB10.out; omega) hK' rfl rfl)⟩
    simp [results, Try.f7, go_sem, hc5]
  · unfold dptr
    gi_wp2
    refine ⟨trivial, ?_⟩
    refine (callsIn_wide.2 (open_arg HD2.out.at_ from_ n (by show n ≤ 2 ∨ from_ < 0 ∨ ((List.replicate 50 (zeros, false)).length : Int) - n < from_; rw [List.length_replicate]; omega) hnb.2)).mono ?_
    rintro e w3 ⟨rfl, hw⟩
    subst hw
    have HB3 : Hid (Below W0.heap.size W0 w3) := HB2.out
    clear HB2 HD2
    gi_wp2
    clear h
    clear ha
    clear hb
    have hnew := new_new 50 50 (nSec_of (n := 50) (by omega)) W0 W0.heap.size w3 HB3.out (Nat.le_refl _)
    refine ⟨trivial, ?_⟩
    refine (callsIn_wide.2 hnew).mono ?_
    rintro e w4 ⟨gc, f4, rfl, hD4, -, -⟩
    have hop := ws_fresh (from_ := 0) (room := 48) hD4 (by omega) (by omega) (by omega)
    have HOP : Hid (Calls Try.prog 16 #[dptr gc, .int .i64 0, .int .i64 50] w4 _) := hop
    clear hnew hop hD4 HB3
    unfold dptr at *
    gi_wp2
    refine ⟨trivial, ?_⟩
    refine (callsIn_wide.2 HOP.out).mono ?_
    rintro e w5 ⟨g5, f5, st5, lf5, rfl, -, hW5, hg5, hF5⟩
    have HW5 : Hid (WS W0 W0.heap.size w5 g5 f5 (s10 0 48) st5) := hW5
    have HF5 : Hid (Fresh1 0 48 50 st5 lf5) := hF5
    have HG5 : Hid (f5.g = gc) := hg5
    have hmk1 : (Instr.makeSlice 41 (.int .i64 16385) (.int .i64 16385)).run Try.prog w5 = .ok (.slice (some ⟨w5.heap.size, 0, none⟩) 16385 16385) (w5.alloc (.cells (zrow 16385) 5)) := run_makeB 16385 (by omega) w5
    have hAA : ∀ W : World, Calls Try.prog 18 #[lptr g5, .slice (some ⟨w5.heap.size, 0, none⟩) 16385 16385] W fun e w' => e = .returned (.tuple #[.int .u64 0, .int .i64 1]) ∧ w' = W := fun W => append_arg g5 (some ⟨w5.heap.size, 0, none⟩) 16385 16385 W (by omega)
    have HAA : Hid (∀ W : World, Calls Try.prog 18 #[lptr g5, .slice (some ⟨w5.heap.size, 0, none⟩) 16385 16385] W _) := hAA
    clear hW5 hF5 hg5 HOP hAA
    unfold lptr at *
    gi_wp2
    refine ⟨trivial, ?_⟩
    refine (callsIn_wide.2 (HAA.out _)).mono ?_
    rintro e w6 ⟨rfl, hw6⟩
    have hb6 : Below w5.heap.size w5 w6 := by rw [hw6]; exact (Below.refl _ _).alloc (Nat.le_refl _) _
    have HW6 : Hid (WS W0 W0.heap.size w6 g5 f5 (s10 0 48) st5) := HW5.out.below hb6
    have hmk2 : (Instr.makeSlice 41 (.int .i64 16384) (.int .i64 16384)).run Try.prog w6 = .ok (.slice (some ⟨w6.heap.size, 0, none⟩) 16384 16384) (w6.alloc (.cells (zrow 16384) 5)) := run_makeB 16384 (by omega) w6
    have hbe : Below w6.heap.size w6 (w6.alloc (.cells (zrow 16384) 5)) := (Below.refl _ _).alloc (Nat.le_refl _) _
    have hsrc : Src (w6.alloc (.cells (zrow 16384) 5)) (.slice (some ⟨w6.heap.size, 0, none⟩) 16384 16384) (zlist 16384) := by
      have := Blk.src (k := 16384) (c := 16384) (l := zlist 16384) (Blk.new w6 (zrow 16384) 5) (by rw [zlist_length]; exact Nat.le_refl _) (Nat.le_refl _) (by unfold maxLen; omega)
      rw [List.take_of_length_le (by rw [zlist_length]; exact Nat.le_refl _)] at this
      exact this
    have hlz : (zlist 16384).length = 16384 := zlist_length _
    have hn35 : needN 16384 = 35 := rfl
    have hst5 := HF5.out.steps
    have hwt5 : st5.waits.length = 0 := by rw [HF5.out.waits]; rfl
    have hap := ws_append (n1 := w6.heap.size) (HW6.out.below hbe) HF5.out.l hsrc ⟨HW6.out.wl.lt.2, HW6.out.wl.lt.1⟩ (fun ad e _ => by cases e; exact .inr (Nat.le_refl _)) (by omega) (by rw [hlz, hn35]; show 35 ≤ 48 - (0 - 0); omega) (by show (0 : Nat) < _; omega) (by show (1 : Nat) ≤ _; omega) (by omega) (by omega)
    obtain ⟨q1, q2, q3⟩ := apTo_len (s10 0 48) (zlist 16384) (needN (zlist 16384).length) st5 (needN (zlist 16384).length)
    rw [hlz, hn35] at hap q1 q2 q3
    have hlen5 := HF5.out.len
    generalize (apTo (s10 0 48) (zlist 16384) 35 st5 35).2 = st7 at *
    have HAP : Hid (Calls _ _ _ _ _) := hap
    have HQ7 : Hid (st7.now.length = 50 ∧ st7.steps < 1000 ∧ st7.waits.length < 1000) := ⟨by omega, by omega, by omega⟩
    clear hap hsrc hlz hn35 hw6 hb6 hmk1 hbe HAA HW5 HF5 HW6 q1 q2 q3 hst5 hwt5 hlen5
    unfold lptr at HAP
    gi_wp2
    refine ⟨trivial, ?_⟩
    refine (callsIn_wide.2 HAP.out).mono ?_
    rintro e w7 ⟨f7, rfl, hW7, hg7⟩
    have HW7 : Hid (WS W0 W0.heap.size w7 g5 f7 ⟨0, 48, 1, 1, 0, 1, 0 + 35, 0⟩ st7) := hW7
    have HG7 : Hid (f7.g = gc) := hg7.trans HG5.out
    have HCA : Hid (Calls Try.prog 20 #[lptr g5, .int .u64 36] w7 _) := cut_arg hW7.wl 36 (.inr (by show 0 + 35 < 36; omega))
    clear hW7 hg7 HAP hmk2 HG5
    unfold lptr at HCA
    gi_wp2
    refine ⟨trivial, ?_⟩
    refine (callsIn_wide.2 HCA.out).mono ?_
    rintro e w' ⟨rfl, hw⟩; rw [hw]; clear hw w'
    have hof := off_any f7 st7 w7 HW7.out.wl.d
    rw [HG7.out] at hof
    have HOF : Hid (Calls _ _ _ _ _) := hof
    clear hof HCA
    unfold dptr at HOF
    gi_wp2
    refine ⟨trivial, ?_⟩
    refine (callsIn_wide.2 HOF.out).mono ?_
    rintro e w8 ⟨rfl, hD8, hc8⟩
    have hB8 : Below W0.heap.size W0 w8 := HW7.out.bel.trans (hc8.below HW7.out.sz (fun k e => by rw [e]; exact HW7.out.own _ (.inl (.inl HG7.out.symm))))
    have hod := open_down (st := { st7 with down := true }) hD8 rfl 0 48 (by omega) (by show 0 + 2 + 48 ≤ st7.now.length; have := HQ7.out.1; omega) (by show st7.steps < _; have := HQ7.out.2.1; omega) (by show st7.waits.length < _; have := HQ7.out.2.2; omega)
    rw [HG7.out] at hod
    have HOD : Hid (Calls Try.prog 16 #[dptr gc, .int .i64 0, .int .i64 50] w8 _) := hod
    have HB8 : Hid (Below W0.heap.size W0 w8) := hB8
    clear hD8 hc8 hB8 hod HOF HW7 HG7 HQ7
    unfold dptr at HOD
    gi_wp2
    refine ⟨trivial, ?_⟩
    refine (callsIn_wide.2 HOD.out).mono ?_
    rintro e w9 ⟨rfl, hb9⟩
    have HB9 : Hid (Below W0.heap.size W0 w9) := HB8.out.trans (hb9.mono HB8.out.size)
    clear hb9 HB8 HOD
    gi_wp2
    refine ⟨trivial, ?_⟩
    refine (callsIn_wide.2 (append_nil _ _ _ _)).mono ?_
    rintro e w' ⟨rfl, hw⟩; rw [hw]; clear hw w'
    gi_wp2
    refine ⟨trivial, ?_⟩
    refine (callsIn_wide.2 (allN_any lsn w9)).mono ?_
    rintro e w10 ⟨rfl, hw10⟩
    have hb10 : Below w9.heap.size w9 w10 := by rw [hw10]; exact ((Below.refl _ _).alloc (Nat.le_refl _) _).alloc (by simp) _
    have hx10 : Boxed w10 w9.heap.size 28 (.pointer none) := by rw [hw10]; exact (Boxed.new w9 28 (.pointer none)).alloc _
    have HX10 : Hid (Boxed w10 w9.heap.size 28 (.pointer none) ∧ ErX w w10) := ⟨hx10, HX0.out.below (HB9.out.trans (hb10.mono HB9.out.size))⟩
    clear hw10 hb10 hx10 HB9
    gi_wp2
    refine wpIn_range_none (n := 6) (F := Fence.wide) rfl (by omega) (gf := 53) (lb := #[.pointer (some ⟨w9.heap.size, 0, none⟩), .pointer (some ⟨w9.heap.size + 1, 0, none⟩)]) rfl trivial (enters_of Try.func53 (by kernel_rfl) rfl) (encs := encE) (allN_good (n := 5) (by omega) HX10.out.1) (fun _ => rfl) (fun W => ErX w W) (erX_own HX10.out.2.2.size) HX10.out.2 ?done2
    rintro D W hD hI hK
    have c6 := hI.1.cell
    have f6 := hI.1.frozen
    have HE : Hid (ErX w W) := hI
    have HB10 : Hid (w.heap.size ≤ w10.heap.size) := HX10.out.2.2.size
    clear hI HX10
    gi_wp2_with (first | (refine ⟨trivial, ?_⟩; gi_at_call 19; refine (callsIn_wide.2 (force_nil _)).mono ?_; rintro e w' ⟨rfl, hw⟩; rw [hw]; clear hw w') | (refine ⟨trivial, ?_⟩; gi_at_call 20; refine (callsIn_wide.2 (cut_nil _ _)).mono ?_; rintro e w' ⟨rfl, hw⟩; rw [hw]; clear hw w') | (refine ⟨trivial, ?_⟩; gi_at_call 26; refine (callsIn_wide.2 (free_nil _)).mono ?_; rintro e w' ⟨rfl, hw⟩; rw [hw]; clear hw w') | (refine ⟨trivial, ?_⟩; gi_at_call 27; refine (callsIn_wide.2 (room_nil _)).mono ?_; rintro e w' ⟨rfl, hw⟩; rw [hw]; clear hw w') | (refine ⟨trivial, ?_⟩; gi_at_call 24; refine (callsIn_wide.2 (start_nil _)).mono ?_; rintro e w' ⟨rfl, hw⟩; rw [hw]; clear hw w') | (refine ⟨trivial, ?_⟩; gi_at_call 25; refine (callsIn_wide.2 (next_nil _)).mono ?_; rintro e w' ⟨rfl, hw⟩; rw [hw]; clear hw w') | (refine ⟨trivial, ?_⟩; gi_at_call 31; refine (callsIn_wide.2 (safe_nil _)).mono ?_; rintro e w' ⟨rfl, hw⟩; rw [hw]; clear hw w') | (refine ⟨trivial, ?_⟩; gi_at_call 28; refine (callsIn_wide.2 (life_nil _)).mono ?_; rintro e w' ⟨rfl, hw⟩; rw [hw]; clear hw w'))
    have hK' := (KeepsOthers.setCell W ⟨w.heap.size, 0, none⟩ (.bool true)).same D _ hK rfl
    refine ⟨by simp, .inl ⟨_, _, rfl, run_takeDeferred hK', ?_⟩⟩
    have hc5 := cell_kept (World.cell?_setCell_same' W ⟨w.heap.size, 0, none⟩ (.bool true) (by rw [c6]; rfl)) (grownBy_putObj' _ D (.deferred none)) (fun r e => by cases e; exact ⟨_, hK', rfl⟩)
    refine ⟨.bool true, ?_, rfl, (HE.out.2.setCell (p := ⟨w.heap.size, 0, none⟩) (Nat.le_refl _) _).trans (belowK_b (w := w) (Nat.le_refl _) _ D _ _ (by have := HE.out.2.size; have := HB10.out; omega) hK' rfl rfl)⟩
    simp [results, Try.f7, go_sem, hc5]
  · unfold dptr
    gi_wp2
    refine ⟨trivial, ?_⟩
    refine (callsIn_wide.2 (open_arg HD2.out.at_ from_ n (by show n ≤ 2 ∨ from_ < 0 ∨ ((List.replicate 50 (zeros, false)).length : Int) - n < from_; rw [List.length_replicate]; omega) hnb.2)).mono ?_
    rintro e w3 ⟨rfl, hw⟩
    subst hw
    have HB3 : Hid (Below W0.heap.size W0 w3) := HB2.out
    clear HB2 HD2
    gi_wp2
    clear h
    clear ha
    clear hb
    clear hc
    have hnew := new_new 50 50 (nSec_of (n := 50) (by omega)) W0 W0.heap.size w3 HB3.out (Nat.le_refl _)
    refine ⟨trivial, ?_⟩
    refine (callsIn_wide.2 hnew).mono ?_
    rintro e w4 ⟨gc, f4, rfl, hD4, -, -⟩
    have hop := ws_fresh (from_ := 0) (room := 48) hD4 (by omega) (by omega) (by omega)
    have HOP : Hid (Calls Try.prog 16 #[dptr gc, .int .i64 0, .int .i64 50] w4 _) := hop
    clear hnew hop hD4 HB3
    unfold dptr at *
    gi_wp2
    refine ⟨trivial, ?_⟩
    refine (callsIn_wide.2 HOP.out).mono ?_
    rintro e w5 ⟨g5, f5, st5, lf5, rfl, -, hW5, hg5, hF5⟩
    have HW5 : Hid (WS W0 W0.heap.size w5 g5 f5 (s10 0 48) st5) := hW5
    have HF5 : Hid (Fresh1 0 48 50 st5 lf5) := hF5
    have HG5 : Hid (f5.g = gc) := hg5
    have hmk1 : (Instr.makeSlice 41 (.int .i64 16385) (.int .i64 16385)).run Try.prog w5 = .ok (.slice (some ⟨w5.heap.size, 0, none⟩) 16385 16385) (w5.alloc (.cells (zrow 16385) 5)) := run_makeB 16385 (by omega) w5
    have hAA : ∀ W : World, Calls Try.prog 18 #[lptr g5, .slice (some ⟨w5.heap.size, 0, none⟩) 16385 16385] W fun e w' => e = .returned (.tuple #[.int .u64 0, .int .i64 1]) ∧ w' = W := fun W => append_arg g5 (some ⟨w5.heap.size, 0, none⟩) 16385 16385 W (by omega)
    have HAA : Hid (∀ W : World, Calls Try.prog 18 #[lptr g5, .slice (some ⟨w5.heap.size, 0, none⟩) 16385 16385] W _) := hAA
    clear hW5 hF5 hg5 HOP hAA
    unfold lptr at *
    gi_wp2
    refine ⟨trivial, ?_⟩
    refine (callsIn_wide.2 (HAA.out _)).mono ?_
    rintro e w6 ⟨rfl, hw6⟩
    have hb6 : Below w5.heap.size w5 w6 := by rw [hw6]; exact (Below.refl _ _).alloc (Nat.le_refl _) _
    have HW6 : Hid (WS W0 W0.heap.size w6 g5 f5 (s10 0 48) st5) := HW5.out.below hb6
    have hmk2 : (Instr.makeSlice 41 (.int .i64 16384) (.int .i64 16384)).run Try.prog w6 = .ok (.slice (some ⟨w6.heap.size, 0, none⟩) 16384 16384) (w6.alloc (.cells (zrow 16384) 5)) := run_makeB 16384 (by omega) w6
    have hbe : Below w6.heap.size w6 (w6.alloc (.cells (zrow 16384) 5)) := (Below.refl _ _).alloc (Nat.le_refl _) _
    have hsrc : Src (w6.alloc (.cells (zrow 16384) 5)) (.slice (some ⟨w6.heap.size, 0, none⟩) 16384 16384) (zlist 16384) := by
      have := Blk.src (k := 16384) (c := 16384) (l := zlist 16384) (Blk.new w6 (zrow 16384) 5) (by rw [zlist_length]; exact Nat.le_refl _) (Nat.le_refl _) (by unfold maxLen; omega)
      rw [List.take_of_length_le (by rw [zlist_length]; exact Nat.le_refl _)] at this
      exact this
    have hlz : (zlist 16384).length = 16384 := zlist_length _
    have hn35 : needN 16384 = 35 := rfl
    have hst5 := HF5.out.steps
    have hwt5 : st5.waits.length = 0 := by rw [HF5.out.waits]; rfl
    have hap := ws_append (n1 := w6.heap.size) (HW6.out.below hbe) HF5.out.l hsrc ⟨HW6.out.wl.lt.2, HW6.out.wl.lt.1⟩ (fun ad e _ => by cases e; exact .inr (Nat.le_refl _)) (by omega) (by rw [hlz, hn35]; show 35 ≤ 48 - (0 - 0); omega) (by show (0 : Nat) < _; omega) (by show (1 : Nat) ≤ _; omega) (by omega) (by omega)
    obtain ⟨q1, q2, q3⟩ := apTo_len (s10 0 48) (zlist 16384) (needN (zlist 16384).length) st5 (needN (zlist 16384).length)
    rw [hlz, hn35] at hap q1 q2 q3
    have hlen5 := HF5.out.len
    generalize (apTo (s10 0 48) (zlist 16384) 35 st5 35).2 = st7 at *
    have HAP : Hid (Calls _ _ _ _ _) := hap
    have HQ7 : Hid (st7.now.length = 50 ∧ st7.steps < 1000 ∧ st7.waits.length < 1000) := ⟨by omega, by omega, by omega⟩
    clear hap hsrc hlz hn35 hw6 hb6 hmk1 hbe HAA HW5 HF5 HW6 q1 q2 q3 hst5 hwt5 hlen5
    unfold lptr at HAP
    gi_wp2
    refine ⟨trivial, ?_⟩
    refine (callsIn_wide.2 HAP.out).mono ?_
    rintro e w7 ⟨f7, rfl, hW7, hg7⟩
    have HW7 : Hid (WS W0 W0.heap.size w7 g5 f7 ⟨0, 48, 1, 1, 0, 1, 0 + 35, 0⟩ st7) := hW7
    have HG7 : Hid (f7.g = gc) := hg7.trans HG5.out
    have HCA : Hid (Calls Try.prog 20 #[lptr g5, .int .u64 36] w7 _) := cut_arg hW7.wl 36 (.inr (by show 0 + 35 < 36; omega))
    clear hW7 hg7 HAP hmk2 HG5
    unfold lptr at HCA
    gi_wp2
    refine ⟨trivial, ?_⟩
    refine (callsIn_wide.2 HCA.out).mono ?_
    rintro e w' ⟨rfl, hw⟩; rw [hw]; clear hw w'
    have hof := off_any f7 st7 w7 HW7.out.wl.d
    rw [HG7.out] at hof
    have HOF : Hid (Calls _ _ _ _ _) := hof
    clear hof HCA
    unfold dptr at HOF
    gi_wp2
    refine ⟨trivial, ?_⟩
    refine (callsIn_wide.2 HOF.out).mono ?_
    rintro e w8 ⟨rfl, hD8, hc8⟩
    have hB8 : Below W0.heap.size W0 w8 := HW7.out.bel.trans (hc8.below HW7.out.sz (fun k e => by rw [e]; exact HW7.out.own _ (.inl (.inl HG7.out.symm))))
    have hod := open_down (st := { st7 with down := true }) hD8 rfl 0 48 (by omega) (by show 0 + 2 + 48 ≤ st7.now.length; have := HQ7.out.1; omega) (by show st7.steps < _; have := HQ7.out.2.1; omega) (by show st7.waits.length < _; have := HQ7.out.2.2; omega)
    rw [HG7.out] at hod
    have HOD : Hid (Calls Try.prog 16 #[dptr gc, .int .i64 0, .int .i64 50] w8 _) := hod
    have HB8 : Hid (Below W0.heap.size W0 w8) := hB8
    clear hD8 hc8 hB8 hod HOF HW7 HG7 HQ7
    unfold dptr at HOD
    gi_wp2
    refine ⟨trivial, ?_⟩
    refine (callsIn_wide.2 HOD.out).mono ?_
    rintro e w9 ⟨rfl, hb9⟩
    have HB9 : Hid (Below W0.heap.size W0 w9) := HB8.out.trans (hb9.mono HB8.out.size)
    clear hb9 HB8 HOD
    gi_wp2
    refine ⟨trivial, ?_⟩
    refine (callsIn_wide.2 (append_nil _ _ _ _)).mono ?_
    rintro e w' ⟨rfl, hw⟩; rw [hw]; clear hw w'
    gi_wp2
    refine ⟨trivial, ?_⟩
    refine (callsIn_wide.2 (allN_any lsn w9)).mono ?_
    rintro e w10 ⟨rfl, hw10⟩
    have hb10 : Below w9.heap.size w9 w10 := by rw [hw10]; exact ((Below.refl _ _).alloc (Nat.le_refl _) _).alloc (by simp) _
    have hx10 : Boxed w10 w9.heap.size 28 (.pointer none) := by rw [hw10]; exact (Boxed.new w9 28 (.pointer none)).alloc _
    have HX10 : Hid (Boxed w10 w9.heap.size 28 (.pointer none) ∧ ErX w w10) := ⟨hx10, HX0.out.below (HB9.out.trans (hb10.mono HB9.out.size))⟩
    clear hw10 hb10 hx10 HB9
    gi_wp2
    refine wpIn_range_none (n := 6) (F := Fence.wide) rfl (by omega) (gf := 53) (lb := #[.pointer (some ⟨w9.heap.size, 0, none⟩), .pointer (some ⟨w9.heap.size + 1, 0, none⟩)]) rfl trivial (enters_of Try.func53 (by kernel_rfl) rfl) (encs := encE) (allN_good (n := 5) (by omega) HX10.out.1) (fun _ => rfl) (fun W => ErX w W) (erX_own HX10.out.2.2.size) HX10.out.2 ?done3
    rintro D W hD hI hK
    have c6 := hI.1.cell
    have f6 := hI.1.frozen
    have HE : Hid (ErX w W) := hI
    have HB10 : Hid (w.heap.size ≤ w10.heap.size) := HX10.out.2.2.size
    clear hI HX10
    gi_wp2_with (first | (refine ⟨trivial, ?_⟩; gi_at_call 19; refine (callsIn_wide.2 (force_nil _)).mono ?_; rintro e w' ⟨rfl, hw⟩; rw [hw]; clear hw w') | (refine ⟨trivial, ?_⟩; gi_at_call 20; refine (callsIn_wide.2 (cut_nil _ _)).mono ?_; rintro e w' ⟨rfl, hw⟩; rw [hw]; clear hw w') | (refine ⟨trivial, ?_⟩; gi_at_call 26; refine (callsIn_wide.2 (free_nil _)).mono ?_; rintro e w' ⟨rfl, hw⟩; rw [hw]; clear hw w') | (refine ⟨trivial, ?_⟩; gi_at_call 27; refine (callsIn_wide.2 (room_nil _)).mono ?_; rintro e w' ⟨rfl, hw⟩; rw [hw]; clear hw w') | (refine ⟨trivial, ?_⟩; gi_at_call 24; refine (callsIn_wide.2 (start_nil _)).mono ?_; rintro e w' ⟨rfl, hw⟩; rw [hw]; clear hw w') | (refine ⟨trivial, ?_⟩; gi_at_call 25; refine (callsIn_wide.2 (next_nil _)).mono ?_; rintro e w' ⟨rfl, hw⟩; rw [hw]; clear hw w') | (refine ⟨trivial, ?_⟩; gi_at_call 31; refine (callsIn_wide.2 (safe_nil _)).mono ?_; rintro e w' ⟨rfl, hw⟩; rw [hw]; clear hw w') | (refine ⟨trivial, ?_⟩; gi_at_call 28; refine (callsIn_wide.2 (life_nil _)).mono ?_; rintro e w' ⟨rfl, hw⟩; rw [hw]; clear hw w'))
    have hK' := (KeepsOthers.setCell W ⟨w.heap.size, 0, none⟩ (.bool true)).same D _ hK rfl
    refine ⟨by simp, .inl ⟨_, _, rfl, run_takeDeferred hK', ?_⟩⟩
    have hc5 := cell_kept (World.cell?_setCell_same' W ⟨w.heap.size, 0, none⟩ (.bool true) (by rw [c6]; rfl)) (grownBy_putObj' _ D (.deferred none)) (fun r e => by cases e; exact ⟨_, hK', rfl⟩)
    refine ⟨.bool true, ?_, rfl, (HE.out.2.setCell (p := ⟨w.heap.size, 0, none⟩) (Nat.le_refl _) _).trans (belowK_b (w := w) (Nat.le_refl _) _ D _ _ (by have := HE.out.2.size; have := HB10.out; omega) hK' rfl rfl)⟩
    simp [results, Try.f7, go_sem, hc5]
  · unfold dptr
    gi_wp2
    refine ⟨trivial, ?_⟩
    obtain ⟨a, rfl⟩ : ∃ a : Nat, from_ = (a : Int) := ⟨from_.toNat, by omega⟩
    obtain ⟨r, rfl⟩ : ∃ r : Nat, n = (r : Int) + 2 := ⟨(n - 2).toNat, by omega⟩
    have hop := ws_fresh (from_ := a) (room := r) HD2.out (by omega) (by omega) (by omega)
    refine (callsIn_wide.2 hop).mono ?_
    rintro e w3 ⟨gl, f3, st3, lf3, rfl, -, hW3, -, -⟩
    have HB3 : Hid (Below W0.heap.size W0 w3) := hW3.bel
    clear hop hW3 HB2 HD2
    unfold lptr
    gi_wp2
    clear h
    clear ha
    clear hb
    clear hc
    have hnew := new_new 50 50 (nSec_of (n := 50) (by omega)) W0 W0.heap.size w3 HB3.out (Nat.le_refl _)
    refine ⟨trivial, ?_⟩
    refine (callsIn_wide.2 hnew).mono ?_
    rintro e w4 ⟨gc, f4, rfl, hD4, -, -⟩
    have hop := ws_fresh (from_ := 0) (room := 48) hD4 (by omega) (by omega) (by omega)
    have HOP : Hid (Calls Try.prog 16 #[dptr gc, .int .i64 0, .int .i64 50] w4 _) := hop
    clear hnew hop hD4 HB3
    unfold dptr at *
    gi_wp2
    refine ⟨trivial, ?_⟩
    refine (callsIn_wide.2 HOP.out).mono ?_
    rintro e w5 ⟨g5, f5, st5, lf5, rfl, -, hW5, hg5, hF5⟩
    have HW5 : Hid (WS W0 W0.heap.size w5 g5 f5 (s10 0 48) st5) := hW5
    have HF5 : Hid (Fresh1 0 48 50 st5 lf5) := hF5
    have HG5 : Hid (f5.g = gc) := hg5
    have hmk1 : (Instr.makeSlice 41 (.int .i64 16385) (.int .i64 16385)).run Try.prog w5 = .ok (.slice (some ⟨w5.heap.size, 0, none⟩) 16385 16385) (w5.alloc (.cells (zrow 16385) 5)) := run_makeB 16385 (by omega) w5
    have hAA : ∀ W : World, Calls Try.prog 18 #[lptr g5, .slice (some ⟨w5.heap.size, 0, none⟩) 16385 16385] W fun e w' => e = .returned (.tuple #[.int .u64 0, .int .i64 1]) ∧ w' = W := fun W => append_arg g5 (some ⟨w5.heap.size, 0, none⟩) 16385 16385 W (by omega)
    have HAA : Hid (∀ W : World, Calls Try.prog 18 #[lptr g5, .slice (some ⟨w5.heap.size, 0, none⟩) 16385 16385] W _) := hAA
    clear hW5 hF5 hg5 HOP hAA
    unfold lptr at *
    gi_wp2
    refine ⟨trivial, ?_⟩
    refine (callsIn_wide.2 (HAA.out _)).mono ?_
    rintro e w6 ⟨rfl, hw6⟩
    have hb6 : Below w5.heap.size w5 w6 := by rw [hw6]; exact (Below.refl _ _).alloc (Nat.le_refl _) _
    have HW6 : Hid (WS W0 W0.heap.size w6 g5 f5 (s10 0 48) st5) := HW5.out.below hb6
    have hmk2 : (Instr.makeSlice 41 (.int .i64 16384) (.int .i64 16384)).run Try.prog w6 = .ok (.slice (some ⟨w6.heap.size, 0, none⟩) 16384 16384) (w6.alloc (.cells (zrow 16384) 5)) := run_makeB 16384 (by omega) w6
    have hbe : Below w6.heap.size w6 (w6.alloc (.cells (zrow 16384) 5)) := (Below.refl _ _).alloc (Nat.le_refl _) _
    have hsrc : Src (w6.alloc (.cells (zrow 16384) 5)) (.slice (some ⟨w6.heap.size, 0, none⟩) 16384 16384) (zlist 16384) := by
      have := Blk.src (k := 16384) (c := 16384) (l := zlist 16384) (Blk.new w6 (zrow 16384) 5) (by rw [zlist_length]; exact Nat.le_refl _) (Nat.le_refl _) (by unfold maxLen; omega)
      rw [List.take_of_length_le (by rw [zlist_length]; exact Nat.le_refl _)] at this
      exact this
    have hlz : (zlist 16384).length = 16384 := zlist_length _
    have hn35 : needN 16384 = 35 := rfl
    have hst5 := HF5.out.steps
    have hwt5 : st5.waits.length = 0 := by rw [HF5.out.waits]; rfl
    have hap := ws_append (n1 := w6.heap.size) (HW6.out.below hbe) HF5.out.l hsrc ⟨HW6.out.wl.lt.2, HW6.out.wl.lt.1⟩ (fun ad e _ => by cases e; exact .inr (Nat.le_refl _)) (by omega) (by rw [hlz, hn35]; show 35 ≤ 48 - (0 - 0); omega) (by show (0 : Nat) < _; omega) (by show (1 : Nat) ≤ _; omega) (by omega) (by omega)
    obtain ⟨q1, q2, q3⟩ := apTo_len (s10 0 48) (zlist 16384) (needN (zlist 16384).length) st5 (needN (zlist 16384).length)
    rw [hlz, hn35] at hap q1 q2 q3
    have hlen5 := HF5.out.len
    generalize (apTo (s10 0 48) (zlist 16384) 35 st5 35).2 = st7 at *
    have HAP : Hid (Calls _ _ _ _ _) := hap
    have HQ7 : Hid (st7.now.length = 50 ∧ st7.steps < 1000 ∧ st7.waits.length < 1000) := ⟨by omega, by omega, by omega⟩
    clear hap hsrc hlz hn35 hw6 hb6 hmk1 hbe HAA HW5 HF5 HW6 q1 q2 q3 hst5 hwt5 hlen5
    unfold lptr at HAP
    gi_wp2
    refine ⟨trivial, ?_⟩
    refine (callsIn_wide.2 HAP.out).mono ?_
    rintro e w7 ⟨f7, rfl, hW7, hg7⟩
    have HW7 : Hid (WS W0 W0.heap.size w7 g5 f7 ⟨0, 48, 1, 1, 0, 1, 0 + 35, 0⟩ st7) := hW7
    have HG7 : Hid (f7.g = gc) := hg7.trans HG5.out
    have HCA : Hid (Calls Try.prog 20 #[lptr g5, .int .u64 36] w7 _) := cut_arg hW7.wl 36 (.inr (by show 0 + 35 < 36; omega))
    clear hW7 hg7 HAP hmk2 HG5
    unfold lptr at HCA
    gi_wp2
    refine ⟨trivial, ?_⟩
    refine (callsIn_wide.2 HCA.out).mono ?_
    rintro e w' ⟨rfl, hw⟩; rw [hw]; clear hw w'
    have hof := off_any f7 st7 w7 HW7.out.wl.d
    rw [HG7.out] at hof
    have HOF : Hid (Calls _ _ _ _ _) := hof
    clear hof HCA
    unfold dptr at HOF
    gi_wp2
    refine ⟨trivial, ?_⟩
    refine (callsIn_wide.2 HOF.out).mono ?_
    rintro e w8 ⟨rfl, hD8, hc8⟩
    have hB8 : Below W0.heap.size W0 w8 := HW7.out.bel.trans (hc8.below HW7.out.sz (fun k e => by rw [e]; exact HW7.out.own _ (.inl (.inl HG7.out.symm))))
    have hod := open_down (st := { st7 with down := true }) hD8 rfl 0 48 (by omega) (by show 0 + 2 + 48 ≤ st7.now.length; have := HQ7.out.1; omega) (by show st7.steps < _; have := HQ7.out.2.1; omega) (by show st7.waits.length < _; have := HQ7.out.2.2; omega)
    rw [HG7.out] at hod
    have HOD : Hid (Calls Try.prog 16 #[dptr gc, .int .i64 0, .int .i64 50] w8 _) := hod
    have HB8 : Hid (Below W0.heap.size W0 w8) := hB8
    clear hD8 hc8 hB8 hod HOF HW7 HG7 HQ7
    unfold dptr at HOD
    gi_wp2
    refine ⟨trivial, ?_⟩
    refine (callsIn_wide.2 HOD.out).mono ?_
    rintro e w9 ⟨rfl, hb9⟩
    have HB9 : Hid (Below W0.heap.size W0 w9) := HB8.out.trans (hb9.mono HB8.out.size)
    clear hb9 HB8 HOD
    gi_wp2
    refine ⟨trivial, ?_⟩
    refine (callsIn_wide.2 (append_nil _ _ _ _)).mono ?_
    rintro e w' ⟨rfl, hw⟩; rw [hw]; clear hw w'
    gi_wp2
    refine ⟨trivial, ?_⟩
    refine (callsIn_wide.2 (allN_any lsn w9)).mono ?_
    rintro e w10 ⟨rfl, hw10⟩
    have hb10 : Below w9.heap.size w9 w10 := by rw [hw10]; exact ((Below.refl _ _).alloc (Nat.le_refl _) _).alloc (by simp) _
    have hx10 : Boxed w10 w9.heap.size 28 (.pointer none) := by rw [hw10]; exact (Boxed.new w9 28 (.pointer none)).alloc _
    have HX10 : Hid (Boxed w10 w9.heap.size 28 (.pointer none) ∧ ErX w w10) := ⟨hx10, HX0.out.below (HB9.out.trans (hb10.mono HB9.out.size))⟩
    clear hw10 hb10 hx10 HB9
    gi_wp2
    refine wpIn_range_none (n := 6) (F := Fence.wide) rfl (by omega) (gf := 53) (lb := #[.pointer (some ⟨w9.heap.size, 0, none⟩), .pointer (some ⟨w9.heap.size + 1, 0, none⟩)]) rfl trivial (enters_of Try.func53 (by kernel_rfl) rfl) (encs := encE) (allN_good (n := 5) (by omega) HX10.out.1) (fun _ => rfl) (fun W => ErX w W) (erX_own HX10.out.2.2.size) HX10.out.2 ?done4
    rintro D W hD hI hK
    have c6 := hI.1.cell
    have f6 := hI.1.frozen
    have HE : Hid (ErX w W) := hI
    have HB10 : Hid (w.heap.size ≤ w10.heap.size) := HX10.out.2.2.size
    clear hI HX10
    gi_wp2_with (first | (refine ⟨trivial, ?_⟩; gi_at_call 19; refine (callsIn_wide.2 (force_nil _)).mono ?_; rintro e w' ⟨rfl, hw⟩; rw [hw]; clear hw w') | (refine ⟨trivial, ?_⟩; gi_at_call 20; refine (callsIn_wide.2 (cut_nil _ _)).mono ?_; rintro e w' ⟨rfl, hw⟩; rw [hw]; clear hw w') | (refine ⟨trivial, ?_⟩; gi_at_call 26; refine (callsIn_wide.2 (free_nil _)).mono ?_; rintro e w' ⟨rfl, hw⟩; rw [hw]; clear hw w') | (refine ⟨trivial, ?_⟩; gi_at_call 27; refine (callsIn_wide.2 (room_nil _)).mono ?_; rintro e w' ⟨rfl, hw⟩; rw [hw]; clear hw w') | (refine ⟨trivial, ?_⟩; gi_at_call 24; refine (callsIn_wide.2 (start_nil _)).mono ?_; rintro e w' ⟨rfl, hw⟩; rw [hw]; clear hw w') | (refine ⟨trivial, ?_⟩; gi_at_call 25; refine (callsIn_wide.2 (next_nil _)).mono ?_; rintro e w' ⟨rfl, hw⟩; rw [hw]; clear hw w') | (refine ⟨trivial, ?_⟩; gi_at_call 31; refine (callsIn_wide.2 (safe_nil _)).mono ?_; rintro e w' ⟨rfl, hw⟩; rw [hw]; clear hw w') | (refine ⟨trivial, ?_⟩; gi_at_call 28; refine (callsIn_wide.2 (life_nil _)).mono ?_; rintro e w' ⟨rfl, hw⟩; rw [hw]; clear hw w'))
    have hK' := (KeepsOthers.setCell W ⟨w.heap.size, 0, none⟩ (.bool true)).same D _ hK rfl
    refine ⟨by simp, .inl ⟨_, _, rfl, run_takeDeferred hK', ?_⟩⟩
    have hc5 := cell_kept (World.cell?_setCell_same' W ⟨w.heap.size, 0, none⟩ (.bool true) (by rw [c6]; rfl)) (grownBy_putObj' _ D (.deferred none)) (fun r e => by cases e; exact ⟨_, hK', rfl⟩)
    refine ⟨.bool true, ?_, rfl, (HE.out.2.setCell (p := ⟨w.heap.size, 0, none⟩) (Nat.le_refl _) _).trans (belowK_b (w := w) (Nat.le_refl _) _ D _ _ (by have := HE.out.2.size; have := HB10.out; omega) hK' rfl rfl)⟩
    simp [results, Try.f7, go_sem, hc5]
end Go.Proofs.Ytepfckckplbjjaa

/- net: Take, Twice, Spoil, walked. Own lemmas, no statement. -/
import Derived.Test.YtcemecclpofhbaaNet3
import Derived.Test.YtcemecclpofhbaaNet4
set_option linter.unusedSimpArgs false
set_option linter.unusedVariables false
namespace Go.Proofs.Ytcemecclpofhbaa
open Go.ChangeShapes Go.WideShapes Go.ChangeAt Go.RowKit

theorem NetI.erase {W W2 : World} {B p g n cap i : Nat} {ls : List LetV} (h : NetI W B p (.slice (some ⟨g, 0, none⟩) n cap) ls) (hi : i < ls.length)
    (ho : W2.ownsRow B 34 2 (.slice (some ⟨g, 0, none⟩) (n - 1) cap) (n - 1) ((ls.eraseIdx i).map LetV.cs).flatten) (hg : W.grownBy W2 (some g)) :
    NetI (W2.setCell ⟨p, 0, none⟩ (.slice (some ⟨g, 0, none⟩) (n - 1) cap)) B p (.slice (some ⟨g, 0, none⟩) (n - 1) cap) (ls.eraseIdx i) ∧ Chg (fun i => i = p ∨ i = g) W (W2.setCell ⟨p, 0, none⟩ (.slice (some ⟨g, 0, none⟩) (n - 1) cap)) ∧ ∀ j, FP p (.slice (some ⟨g, 0, none⟩) (n - 1) cap) (ls.eraseIdx i) j → FP p (.slice (some ⟨g, 0, none⟩) n cap) ls j := by
  have hgL : ∃ cur, Blk W g cur 34 := by
    rcases h.own.2 with ⟨e, _⟩ | ⟨g2, cap2, cur2, e, _, hg2, _⟩
    · cases e
    · simp only [Value.slice.injEq, Option.some.injEq, Addr.mk.injEq, and_true, true_and] at e
      obtain ⟨rfl, _⟩ := e
      exact ⟨cur2, hg2⟩
  obtain ⟨cur, hgb⟩ := hgL
  have hpg : p ≠ g := h.blk.ne hgb (by decide)
  have hP2 : Blk W2 p _ 27 := h.blk.of (hg.block p h.blk.lt (fun e => hpg (by cases e; rfl)))
  have hP3 : Blk (W2.setCell ⟨p, 0, none⟩ (.slice (some ⟨g, 0, none⟩) (n - 1) cap)) p #[.slice (some ⟨g, 0, none⟩) (n - 1) cap] 27 := by
    have := hP2.set 0 (.slice (some ⟨g, 0, none⟩) (n - 1) cap)
    simpa using this
  have hl : (ls.eraseIdx i).length = n - 1 := by
    have h1 := ho.1
    rw [flat_len] at h1
    omega
  have hln : ls.length = n := by
    have h1 := h.own.1
    obtain ⟨a, c, e, _⟩ := h.form
    simp only [Value.slice.injEq] at e
    omega
  have hel : ∀ y ∈ ls, ∀ b, y.v.ownBlock = some b → b ≠ p ∧ b ≠ g ∧ b < W.heap.size := fun y hy b e => by
    have hyo := (h.el y hy).1
    have hlt := World.ownsRow.lt hyo b e
    rcases hyo.2 with ⟨e2, _⟩ | ⟨g3, cap3, cur3, e2, _, hg', _⟩
    · rw [e2] at e; cases e
    · rw [e2] at e
      simp [Value.ownBlock] at e
      subst e
      exact ⟨(Blk.ne (show Blk W g3 cur3 5 from hg') h.blk (by decide)), (Blk.ne (show Blk W g3 cur3 5 from hg') hgb (by decide)), hlt.2⟩
  refine ⟨⟨hP3, h.base, ?_, fun y hy => ?_, h.apart.sublist (List.eraseIdx_sublist _ _), by have := h.len; omega⟩, ⟨hg.os, hg.tape, hg.output, by simpa using hg.size, fun j hj hne => ?_⟩, fun j hj => ?_⟩
  · rw [hl]
    exact owns_kept ho (fun b e => Below.heap_setCell _ _ _ _ (by simp [Value.ownBlock] at e; subst e; exact Ne.symm hpg))
  · have hy' := List.mem_of_mem_eraseIdx hy
    refine ⟨owns_kept (h.el y hy').1 fun b e => ?_, (h.el y hy').2⟩
    obtain ⟨e1, e2, e3⟩ := hel y hy' b e
    rw [Below.heap_setCell _ _ _ _ (by exact e1), hg.block b e3 (fun e4 => e2 (by cases e4; rfl))]
  · rw [Below.heap_setCell _ _ _ _ (by show j ≠ p; exact fun e => hne (.inl e)), hg.block j hj (fun e => hne (.inr (by cases e; rfl)))]
  · rcases hj with rfl | hj | ⟨y, hy, hj⟩
    · exact .inl rfl
    · exact .inr (.inl hj)
    · exact .inr (.inr ⟨y, List.mem_of_mem_eraseIdx hy, hj⟩)
/-- What Take hands back. -/
def TakeP (B p : Nat) (v : Value) (ls : List LetV) (at_ : Int) (w : World) (e : Ending) (w' : World) : Prop :=
  (inB at_ ls.length = false ∧ e = .returned (.tuple #[.agg #[.int .i64 0, .slice none 0 0], .bool false]) ∧ Below w.heap.size w w') ∨
  (∃ (x : LetV) (i : Nat) (a' : Option Addr) (c' : Nat), at_ = (i : Int) ∧ ls[i]? = some x ∧ e = .returned (.tuple #[.agg #[.int .i64 x.dst, .slice a' x.bs.length c'], .bool true]) ∧ Own w' w.heap.size (.slice a' x.bs.length c') x.bs ∧ ∃ v', NetI w' B p v' (ls.eraseIdx i) ∧ Chg (fun i => i = p ∨ v.ownBlock = some i) w w' ∧ ∀ j, FP p v' (ls.eraseIdx i) j → FP p v ls j)
set_option maxRecDepth 100000 in
set_option maxHeartbeats 4000000 in
theorem take_any (B p : Nat) (v : Value) (ls : List LetV) (at_ : Int) (w : World) (h : NetI w B p v ls) (hat : (Lit.int .i64 at_).wf = true) :
    Calls Try.prog 10 #[.pointer (some ⟨p, 0, none⟩), .int .i64 at_] w (TakeP B p v ls at_ w) := by
  have HN : Hid (NetI w B p v ls) := h
  obtain ⟨w0, hw0⟩ : ∃ w0, w0 = w.alloc (.cells #[.int .i64 0, .slice none 0 0] 34) := ⟨_, rfl⟩
  have HE : Hid (Below w.heap.size w w0) := by rw [hw0]; exact below_allocR _
  have HR : Hid (Blk w0 w.heap.size #[.int .i64 0, .slice none 0 0] 34) := by rw [hw0]; exact Blk.new _ _ _
  have HPW : Hid (p < w.heap.size) := h.blk.lt
  have HX : Hid (Calls _ _ _ _ _) := at_any B p v ls at_ w0 (h.below HE.out)
  clear h hat
  go_enter Try.func10, Try.ntmps10
  go_upto_region 1 with fail
  rw [← hw0]
  clear hw0
  go_wp2_with fail
  refine HX.out.mono ?_
  rintro e w1 ⟨hh, y⟩
  have HY1 : Hid (Below w.heap.size w w1) := ext_trans HE.out y
  have HR1 : Hid (Blk w1 w.heap.size #[.int .i64 0, .slice none 0 0] 34) := HR.out.of (y.block _ HR.out.lt)
  have HSW : Hid (w0.heap.size = w.heap.size + 1 ∨ w.heap.size < w0.heap.size) := .inr HR.out.lt
  rcases hh with ⟨hin, rfl⟩ | ⟨x, i, a', c', hi, hx, rfl, ho⟩
  · have HIN : Hid (inB at_ ls.length = false) := hin
    clear hin y HX
    obtain ⟨w2, hw2⟩ : ∃ w2, w2 = w1.alloc (.cells #[.int .i64 0, .slice none 0 0] 34) := ⟨_, rfl⟩
    have HY2 : Hid (Below w.heap.size w w2) := by rw [hw2]; exact HY1.out.alloc HY1.out.size _
    have HR2 : Hid (Blk w2 w.heap.size #[.int .i64 0, .slice none 0 0] 34) := by rw [hw2]; exact HR1.out.alloc _
    have HT2 : Hid (Blk w2 w1.heap.size #[.int .i64 0, .slice none 0 0] 34) := by rw [hw2]; exact Blk.new _ _ _
    go_upto_region 4 with fail
    rw [← hw2]
    clear hw2
    generalize w1.heap.size = q at *
    have t0 : w2.cell? ⟨q, 0, none⟩ = some (.int .i64 0) := HT2.out.cell 0
    have t1 : w2.cell? ⟨q, 1, none⟩ = some (.slice none 0 0) := HT2.out.cell 1
    have y0 : w2.cell? ⟨w.heap.size, 0, none⟩ = some (.int .i64 0) := HR2.out.cell 0
    have y1 : w2.cell? ⟨w.heap.size, 1, none⟩ = some (.slice none 0 0) := HR2.out.cell 1
    have f0 := HR2.out.frozen 0
    have f1 := HR2.out.frozen 1
    have HR3 : Hid (Blk ((w2.setCell ⟨w.heap.size, 0, none⟩ (.int .i64 0)).setCell ⟨w.heap.size, 1, none⟩ (.slice none 0 0)) w.heap.size #[.int .i64 0, .slice none 0 0] 34) := by
      show Blk _ _ _ _
      have := (HR2.out.set 0 (.int .i64 0)).set 1 (.slice none 0 0)
      simpa using this
    have HY3 : Hid (Below w.heap.size w ((w2.setCell ⟨w.heap.size, 0, none⟩ (.int .i64 0)).setCell ⟨w.heap.size, 1, none⟩ (.slice none 0 0))) := (HY2.out.setCell (Nat.le_refl _) _).setCell (Nat.le_refl _) _
    go_wp2
    generalize (w2.setCell ⟨w.heap.size, 0, none⟩ (.int .i64 0)).setCell ⟨w.heap.size, 1, none⟩ (.slice none 0 0) = w3 at *
    have z0 : w3.cell? ⟨w.heap.size, 0, none⟩ = some (.int .i64 0) := HR3.out.cell 0
    have z1 : w3.cell? ⟨w.heap.size, 1, none⟩ = some (.slice none 0 0) := HR3.out.cell 1
    exact bodyPost_ret (v := .tuple #[.agg #[.int .i64 0, .slice none 0 0], .bool false]) (by simp [results, Try.results10, go_sem, z0, z1]) rfl (.inl ⟨HIN.out, rfl, HY3.out⟩)
  · obtain ⟨a, k, hv, hlk, hkm, hnn, hga⟩ := HN.out.form
    subst hi
    have hil : i < ls.length := (List.getElem?_eq_some_iff.1 hx).1
    obtain ⟨ad, had⟩ : ∃ ad, a = some ad := by
      cases a with
      | none => have := hnn rfl; rw [this] at hil; simp at hil
      | some ad => exact ⟨ad, rfl⟩
    obtain ⟨g, hg⟩ := hga ad had
    subst had
    subst hg
    subst hv
    have HXI : Hid (ls[i]? = some x) := hx
    have HIL : Hid (i < ls.length) := hil
    obtain ⟨n, hn⟩ : ∃ n, n = ls.length := ⟨_, rfl⟩
    have HNN : Hid (n = ls.length) := hn
    rw [← hn] at HN
    have hin : i < n := by omega
    have hlk' : n ≤ k := by omega
    clear hx hil hn hlk hnn hga HX
    obtain ⟨bl, hbl⟩ : ∃ bl, bl = x.bs.length := ⟨_, rfl⟩
    have HBL : Hid (bl = x.bs.length) := hbl
    rw [← hbl] at ho ⊢
    clear hbl
    obtain ⟨w2, hw2⟩ : ∃ w2, w2 = w1.alloc (.cells #[.int .i64 x.dst, .slice a' bl c'] 34) := ⟨_, rfl⟩
    have HO2 : Hid (Own w2 w0.heap.size (.slice a' bl c') x.bs) := by rw [hw2]; exact ho.alloc _
    have HY2 : Hid (Below w.heap.size w w2) := by rw [hw2]; exact HY1.out.alloc HY1.out.size _
    have HR2 : Hid (Blk w2 w.heap.size #[.int .i64 0, .slice none 0 0] 34) := by rw [hw2]; exact HR1.out.alloc _
    have HT2 : Hid (Blk w2 w1.heap.size #[.int .i64 x.dst, .slice a' bl c'] 34) := by rw [hw2]; exact Blk.new _ _ _
    have HW1 : Hid (w0.heap.size ≤ w1.heap.size ∧ w.heap.size < w0.heap.size) := ⟨y.size, HR.out.lt⟩
    clear ho y
    have HN2 : Hid (NetI w2 B p (.slice (some ⟨g, 0, none⟩) n k) ls) := HN.out.below HY2.out
    go_upto_region 3 with fail
    rw [← hw2]
    clear hw2
    have c0 : w2.cell? ⟨p, 0, none⟩ = some (.slice (some ⟨g, 0, none⟩) n k) := HN2.out.blk.cell 0
    unfold maxLen at hkm
    have hi64 : (i : Int) < 9223372036854775807 := by omega
    have hwr : wrap64 ((i : Int) + 1) = ((i + 1 : Nat) : Int) := by unfold wrap64; omega
    have hwr2 : IntKind.i64.wrap ((i : Int) + 1) = ((i + 1 : Nat) : Int) := by rw [IntKind.wrap_i64]; omega
    have HX : Hid (Calls _ _ _ _ _) := del_any B g k n i ls w2 (by have := HN2.out.own; rw [← HNN.out] at this; exact this) hin
    go_wp2_with fail
    refine HX.out.mono ?_
    rintro e w3 ⟨rfl, ho3, hg3⟩
    obtain ⟨hNI, hCH, hFP⟩ := HN2.out.erase HIL.out ho3 hg3
    have hpg : p ≠ g := by
      rcases HN2.out.own.2 with ⟨e, _⟩ | ⟨g2, cap2, cur2, e, _, hg2, _⟩
      · cases e
      · simp only [Value.slice.injEq, Option.some.injEq, Addr.mk.injEq, and_true, true_and] at e
        obtain ⟨rfl, _⟩ := e
        exact HN2.out.blk.ne (show Blk w2 g cur2 34 from hg2) (by decide)
    have hgw : g < w.heap.size := (HN.out.own.lt g rfl).2
    have hP3 : Blk w3 p #[.slice (some ⟨g, 0, none⟩) n k] 27 := HN2.out.blk.of (hg3.block p HN2.out.blk.lt (fun e => hpg (by cases e; rfl)))
    have p0 : w3.cell? ⟨p, 0, none⟩ = some (.slice (some ⟨g, 0, none⟩) n k) := hP3.cell 0
    have pf : w3.frozen? ⟨p, 0, none⟩ = false := hP3.frozen 0
    have HNI : Hid _ := hNI
    have HCH : Hid _ := hCH
    have HFP : Hid _ := hFP
    have HGW : Hid (p < w.heap.size ∧ g < w.heap.size) := ⟨HPW.out, hgw⟩
    have hne1 : w1.heap.size ≠ p ∧ w1.heap.size ≠ g := by have := HW1.out; have := HGW.out; omega
    have hne2 : w.heap.size ≠ p ∧ w.heap.size ≠ g := by have := HGW.out; omega
    have HT4 : Hid (Blk (w3.setCell ⟨p, 0, none⟩ (.slice (some ⟨g, 0, none⟩) (n - 1) k)) w1.heap.size #[.int .i64 x.dst, .slice a' bl c'] 34) := HT2.out.chg HCH.out (fun e => by rcases e with e | e; exact hne1.1 e; exact hne1.2 e)
    have HR4 : Hid (Blk (w3.setCell ⟨p, 0, none⟩ (.slice (some ⟨g, 0, none⟩) (n - 1) k)) w.heap.size #[.int .i64 0, .slice none 0 0] 34) := HR2.out.chg HCH.out (fun e => by rcases e with e | e; exact hne2.1 e; exact hne2.2 e)
    have HO4 : Hid (Own (w3.setCell ⟨p, 0, none⟩ (.slice (some ⟨g, 0, none⟩) (n - 1) k)) w0.heap.size (.slice a' bl c') x.bs) := owns_kept HO2.out fun b e => by
      have h1 := World.ownsRow.lt HO2.out b e
      have h2 := HW1.out
      have h3 := HGW.out
      exact HCH.out.block b h1.2 (fun e => by rcases e with e | e <;> omega)
    clear ho3 hg3 hNI hCH hFP hpg hgw hP3 hne1 hne2 HX c0
    go_upto_region 4 with fail
    generalize w3.setCell ⟨p, 0, none⟩ (.slice (some ⟨g, 0, none⟩) (n - 1) k) = w4 at *
    clear p0 pf
    have HWQ : Hid (w.heap.size < w1.heap.size) := by have := HW1.out; show _ < _; omega
    generalize w1.heap.size = q at *
    have t0 : w4.cell? ⟨q, 0, none⟩ = some (.int .i64 x.dst) := HT4.out.cell 0
    have t1 : w4.cell? ⟨q, 1, none⟩ = some (.slice a' bl c') := HT4.out.cell 1
    have y0 : w4.cell? ⟨w.heap.size, 0, none⟩ = some (.int .i64 0) := HR4.out.cell 0
    have y1 : w4.cell? ⟨w.heap.size, 1, none⟩ = some (.slice none 0 0) := HR4.out.cell 1
    have f0 := HR4.out.frozen 0
    have f1 := HR4.out.frozen 1
    obtain ⟨w5, hw5⟩ : ∃ w5, w5 = (w4.setCell ⟨w.heap.size, 0, none⟩ (.int .i64 x.dst)).setCell ⟨w.heap.size, 1, none⟩ (.slice a' bl c') := ⟨_, rfl⟩
    have hch5 : Chg (fun i => i = w.heap.size) w4 w5 := by rw [hw5]; exact Chg.setCell (Chg.setCell (Chg.refl (fun i => i = w.heap.size) w4) ⟨w.heap.size, 0, none⟩ (fun _ => rfl) _) ⟨w.heap.size, 1, none⟩ (fun _ => rfl) _
    have HR5 : Hid (Blk w5 w.heap.size #[.int .i64 x.dst, .slice a' bl c'] 34) := by
      rw [hw5]
      show Blk _ _ _ _
      have := (HR4.out.set 0 (.int .i64 x.dst)).set 1 (.slice a' bl c')
      simpa using this
    have HO5 : Hid (Own w5 w.heap.size (.slice a' bl c') x.bs) := by
      refine Own.mono (owns_kept HO4.out fun b e => ?_) (Nat.le_of_lt HW1.out.2)
      have h1 := World.ownsRow.lt HO4.out b e
      have h2 := HW1.out
      exact hch5.block b h1.2 (by omega)
    have HN5 : Hid (NetI w5 B p (.slice (some ⟨g, 0, none⟩) (n - 1) k) (ls.eraseIdx i)) := HNI.out.keep fun j hj => by
      have h1 := HNI.out.fp_lt hj
      have h2 := HN.out.fp_lt (HFP.out j hj)
      exact hch5.block j h1.2 (by omega)
    have HC5 : Hid (Chg (fun j => j = p ∨ (Value.slice (some ⟨g, 0, none⟩) n k).ownBlock = some j) w w5) := by
      have h1 : Chg (fun j => j = p ∨ (Value.slice (some ⟨g, 0, none⟩) n k).ownBlock = some j) w w2 := Chg.of_below HY2.out (fun j hj hb => by omega)
      have h2 := Chg.trans h1 HCH.out (fun j hj e => by
        rcases e with e | e
        · exact .inl e
        · exact .inr (by rw [e]; rfl))
      exact Chg.trans h2 hch5 (fun j hj e => by omega)
    clear hch5
    go_wp2
    rw [← hw5]
    clear hw5 y0 y1 f0 f1 t0 t1
    have z0 : w5.cell? ⟨w.heap.size, 0, none⟩ = some (.int .i64 x.dst) := HR5.out.cell 0
    have z1 : w5.cell? ⟨w.heap.size, 1, none⟩ = some (.slice a' bl c') := HR5.out.cell 1
    exact bodyPost_ret (v := .tuple #[.agg #[.int .i64 x.dst, .slice a' bl c'], .bool true]) (by simp [results, Try.results10, go_sem, z0, z1]) rfl (.inr ⟨x, i, a', c', rfl, HXI.out, by rw [HBL.out], by rw [← HBL.out]; exact HO5.out, _, HN5.out, HC5.out, HFP.out⟩)
end Go.Proofs.Ytcemecclpofhbaa

/- DueRuns: the thing is sought. Own lemmas, no statement. -/
import Derived.Test.YtgoejoiomjmfaaaRunsF
namespace Go.Proofs.Ytgoejoiomjmfaaa
open Go.ChangeShapes Go.WideShapes Go.ChangeAt Go.RowKit

set_option maxRecDepth 100000 in
set_option maxHeartbeats 8000000 in
theorem find_round (w1 : World) (B : Nat) (v0 v3 v5 : Value) (x : Addr) (cap : Nat) (l : List Ent) (bo : Nat) (o : OpE) (T : Nat → Value) (j : Nat) (at_ : Int) (wx : World) (Q : Exit → Act → World → Prop)
    (hr : RowE w1 B x cap l) (hbo : Blk w1 bo (oC o) 31) (hj : j < l.length) (hF : Found l o.e.key j at_) (hb : Below w1.heap.size w1 wx) :
    Code.wp Try.prog (firstOf (bodyOf Try.f3)) (Exit.then (fun a' w' => FI w1 v0 v3 (.slice (some x) l.length cap) v5 (.pointer (some ⟨bo, 0, none⟩)) (.slice (some x) l.length cap) (.int .i64 (l.length : Int)) l o.e.key a' w' ∧ Fmu l.length a' w' < l.length - j) Q)
      ⟨frF T v0 (.bool false) v3 (.slice (some x) l.length cap) v5 (.pointer (some ⟨bo, 0, none⟩)) (.int .i64 at_) (.slice (some x) l.length cap) (.int .i64 (l.length : Int)) (.int .i64 (j : Int)), []⟩ wx := by
  have hd1 : decide ((j : Int) < (l.length : Int)) = true := decide_eq_true (by omega)
  obtain ⟨e, he⟩ : ∃ e, l[j]? = some e := ⟨l[j], List.getElem?_eq_getElem hj⟩
  obtain ⟨e0, e1, e2, e3⟩ := (hr.below hb).at he
  have hb1 : Below wx.heap.size wx (wx.alloc (.cells #[.int .i64 e.at_, .int .i64 e.kind, .int .u64 e.num, .int .i64 e.node] 34)) := (Below.refl _ _).alloc (Nat.le_refl _) _
  have hbk := (hbo.bel hb).bel hb1
  have c1 : (wx.alloc (.cells #[.int .i64 e.at_, .int .i64 e.kind, .int .u64 e.num, .int .i64 e.node] 34)).cell? ⟨bo, 1, none⟩ = some (.int .i64 o.e.kind) := hbk.cell 1
  have c2 : (wx.alloc (.cells #[.int .i64 e.at_, .int .i64 e.kind, .int .u64 e.num, .int .i64 e.node] 34)).cell? ⟨bo, 2, none⟩ = some (.int .u64 o.e.num) := hbk.cell 2
  have c3 : (wx.alloc (.cells #[.int .i64 e.at_, .int .i64 e.kind, .int .u64 e.num, .int .i64 e.node] 34)).cell? ⟨bo, 3, none⟩ = some (.int .i64 o.e.node) := hbk.cell 3
  have HB : Hid (Below w1.heap.size w1 (wx.alloc (.cells #[.int .i64 e.at_, .int .i64 e.kind, .int .u64 e.num, .int .i64 e.node] 34))) := bel_trans hb hb1
  have HF : Hid (Found l o.e.key j at_) := hF
  have HE : Hid (l[j]? = some e) := he
  have hlm : (l.length : Int) ≤ 9223372036854775807 := by have := hr.le; omega
  have hjl : (j : Int) < (l.length : Int) := by omega
  clear hb1 hbk hbo hr hF he hb
  generalize hn : l.length = n at *
  unfold frF
  conv => arg 2; whnf
  by_cases hk : e.key = o.e.key
  · have hk3 : e.kind = o.e.kind ∧ e.num = o.e.num ∧ e.node = o.e.node := by
      unfold Ent.key at hk
      simpa using hk
    have HK : Hid (e.key = o.e.key) := hk
    rw [← hk3.1] at c1
    rw [← hk3.2.1] at c2
    rw [← hk3.2.2] at c3
    clear hk3 hk
    go_wp2_with fail
    refine ⟨⟨j + 1, (j : Int), ⟨rfl, rfl, rfl, rfl, rfl, rfl, rfl, rfl, rfl, rfl, rfl, by go_num⟩, by omega, Found.yes HE.out HK.out, HB.out⟩, ?_⟩
    simp [Fmu, intOf]; omega
  · have HK : Hid (¬ e.key = o.e.key) := hk
    by_cases h1 : e.kind = o.e.kind
    · rw [← h1] at c1
      by_cases h2 : e.num = o.e.num
      · rw [← h2] at c2
        have h3 : ¬ e.node = o.e.node := fun h => hk (by unfold Ent.key; rw [h1, h2, h])
        clear hk h1 h2
        go_wp2_with fail
        refine ⟨⟨j + 1, at_, ⟨rfl, rfl, rfl, rfl, rfl, rfl, rfl, rfl, rfl, rfl, rfl, by go_num⟩, by omega, HF.out.no HE.out HK.out, HB.out⟩, ?_⟩
        simp [Fmu, intOf]; omega
      · clear hk h1
        go_wp2_with fail
        refine ⟨⟨j + 1, at_, ⟨rfl, rfl, rfl, rfl, rfl, rfl, rfl, rfl, rfl, rfl, rfl, by go_num⟩, by omega, HF.out.no HE.out HK.out, HB.out⟩, ?_⟩
        simp [Fmu, intOf]; omega
    · have hd2 : (e.kind == o.e.kind) = false := beq_eq_false_iff_ne.2 h1
      clear hk h1
      go_wp2_with fail
      refine ⟨⟨j + 1, at_, ⟨rfl, rfl, rfl, rfl, rfl, rfl, rfl, rfl, rfl, rfl, rfl, by go_num⟩, by omega, HF.out.no HE.out HK.out, HB.out⟩, ?_⟩
      simp [Fmu, intOf]; omega
end Go.Proofs.Ytgoejoiomjmfaaa

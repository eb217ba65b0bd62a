/- DueRuns: rounds of the law's loop: none of its operations. Own lemmas, no statement. -/
import Derived.Test.YtgoejoiomjmfaaaRunsG
namespace Go.Proofs.Ytgoejoiomjmfaaa
open Go.ChangeShapes Go.WideShapes Go.ChangeAt Go.RowKit

theorem RunsAt.more {w : World} {B : Nat} {wr : World} {g N : Nat} {T : Key → Option Int} {x : Addr} {cap : Nat} {l : List Ent} (h : RunsAt w B wr g N x cap l T) : RunsAt w B wr g (N + 1) x cap l T := ⟨h.q.mono (by omega) (fun _ _ e => e), h.t, h.r, h.bel, h.le, h.size⟩

set_option maxRecDepth 100000 in
set_option maxHeartbeats 8000000 in
theorem run_else (w0 : World) (B : Nat) (x0 : Addr) (no co g k : Nat) (hk : k < no) (hk2 : k < 60) (T : Nat → Value) (x : Addr) (cap : Nat) (l : List Ent) (Tb : Key → Option Int) (wx : World) (Q : Exit → Act → World → Prop) (o : OpE) (hop0 : OpAt w0 x0 k o) (hR : RunsAt w0 B wx g k x cap l Tb) (hlk : l.length ≤ k) (h0 : ¬ o.k = 0) (h1 : ¬ o.k = 1) (h2 : ¬ o.k = 2) (h3 : ¬ o.k = 3) :
    Code.wp Try.prog (bodyOf Try.f3) (Exit.then (fun a' w' => RI w0 B (some x0) no co g a' w' ∧ Rmu a' w' < 60 - k) Q) ⟨fr T (.slice (some x0) no co) (.bool false) (.pointer (some ⟨g, 0, none⟩)) (.slice (some x) l.length cap) (.int .i64 (k : Int)), []⟩ wx := by
  have hd1 : decide ((k : Int) < (no : Int)) = true := decide_eq_true (by omega)
  have hd2 : decide ((k : Int) < 60) = true := decide_eq_true (by omega)
  have hop := hop0.below hR.bel
  have e0 : wx.cell? (x0.add (k * 5)) = some (.int .i64 o.k) := hop.c0
  have e1 : wx.cell? ⟨(x0.add (k * 5)).block, (x0.add (k * 5)).off + 1, none⟩ = some (.int .i64 o.e.kind) := cell_on (by omega) hop.c1
  have e2 : wx.cell? ⟨(x0.add (k * 5)).block, (x0.add (k * 5)).off + 2, none⟩ = some (.int .u64 o.e.num) := cell_on (by omega) hop.c2
  have e3 : wx.cell? ⟨(x0.add (k * 5)).block, (x0.add (k * 5)).off + 3, none⟩ = some (.int .i64 o.e.node) := cell_on (by omega) hop.c3
  have e4 : wx.cell? ⟨(x0.add (k * 5)).block, (x0.add (k * 5)).off + 4, none⟩ = some (.int .i64 o.e.at_) := cell_on (by omega) hop.c4
  have HOP : Hid (OpAt w0 x0 k o) := hop0
  have hbeL : Below wx.heap.size wx (wx.alloc (.cells #[.int .i64 o.k, .int .i64 o.e.kind, .int .u64 o.e.num, .int .i64 o.e.node, .int .i64 o.e.at_] 31)) := (Below.refl _ _).alloc (Nat.le_refl _) _
  have HR1 : Hid (RunsAt w0 B (wx.alloc (.cells #[.int .i64 o.k, .int .i64 o.e.kind, .int .u64 o.e.num, .int .i64 o.e.node, .int .i64 o.e.at_] 31)) g k x cap l Tb) := hR.below hbeL
  have HL1 : Hid (Blk (wx.alloc (.cells #[.int .i64 o.k, .int .i64 o.e.kind, .int .u64 o.e.num, .int .i64 o.e.node, .int .i64 o.e.at_] 31)) wx.heap.size (oC o) 31) := Blk.new wx _ _
  have hlen64 : (l.length : Int) ≤ 9223372036854775807 := by omega
  clear hop hop0 hR hbeL
  have q0 : (o.k == 0) = false := beq_eq_false_iff_ne.2 h0
  have q1 : (o.k == 1) = false := beq_eq_false_iff_ne.2 h1
  have q2 : (o.k == 2) = false := beq_eq_false_iff_ne.2 h2
  have q3 : (o.k == 3) = false := beq_eq_false_iff_ne.2 h3
  clear h0 h1 h2 h3
  unfold fr
  conv => arg 2; whnf
  go_wp2_with fail
  refine wp_loop (FI (wx.alloc (.cells #[.int .i64 o.k, .int .i64 o.e.kind, .int .u64 o.e.num, .int .i64 o.e.node, .int .i64 o.e.at_] 31)) (.slice (some x0) no co) (.pointer (some ⟨g, 0, none⟩)) (.slice (some x) l.length cap) (.int .i64 (k : Int)) (.pointer (some ⟨wx.heap.size, 0, none⟩)) (.slice (some x) l.length cap) (.int .i64 (l.length : Int)) l o.e.key) (Fmu l.length) ?_ ?_
  · exact ⟨0, -1, ⟨rfl, rfl, rfl, rfl, rfl, rfl, rfl, rfl, rfl, rfl, rfl, rfl⟩, by omega, Found.start _ _, Below.refl _ _⟩
  · clear e0 e1 e2 e3 e4
    rintro a wz ⟨j, at_, hsl, hj, hF, hb⟩
    have hmu : Fmu l.length a wz = l.length - j := by unfold Fmu; rw [hsl.2.2.2.2.2.2.2.2.2.2.2]; simp [intOf]
    rw [hmu]
    have hlit := hsl.lit
    generalize (fun i => a.tmps.getD i undef) = T2 at hlit
    subst hlit
    clear hsl hmu
    by_cases hlt : j < l.length
    · exact find_round (wx.alloc (.cells #[.int .i64 o.k, .int .i64 o.e.kind, .int .u64 o.e.num, .int .i64 o.e.node, .int .i64 o.e.at_] 31)) B (.slice (some x0) no co) (.pointer (some ⟨g, 0, none⟩)) (.int .i64 (k : Int)) x cap l wx.heap.size o T2 j at_ wz _ HR1.out.r HL1.out hlt hF hb
    · obtain rfl : j = l.length := by omega
      have hd3 : decide ((l.length : Int) < (l.length : Int)) = false := decide_eq_false (by omega)
      have HZ : Hid (AftAt w0 B wz g k l.length Tb x cap l wx.heap.size o) := (HR1.out.aft HL1.out).below hb
      have HTab : Hid (Tab Tb l) := HR1.out.t
      have HF : Hid (Found l o.e.key l.length at_) := hF
      have c0 : wz.cell? ⟨wx.heap.size, 0, none⟩ = some (.int .i64 o.k) := HZ.out.bo.cell 0
      have c1 : wz.cell? ⟨wx.heap.size, 1, none⟩ = some (.int .i64 o.e.kind) := HZ.out.bo.cell 1
      have c2 : wz.cell? ⟨wx.heap.size, 2, none⟩ = some (.int .u64 o.e.num) := HZ.out.bo.cell 2
      have c3 : wz.cell? ⟨wx.heap.size, 3, none⟩ = some (.int .i64 o.e.node) := HZ.out.bo.cell 3
      have c4 : wz.cell? ⟨wx.heap.size, 4, none⟩ = some (.int .i64 o.e.at_) := HZ.out.bo.cell 4
      clear hb hF hj hlt HR1 HL1
      generalize wx.heap.size = bo at *
      unfold frF
      have HLen : Hid (Calls _ _ _ _ _) := aft_len HZ.out
      have HE : Hid (RunsAt w0 B wz g (k + 1) x cap l Tb) := (HZ.out.same HTab.out).more
      clear HZ HF HTab
      unfold iptr at *
      go_wp2_with fail
      refine Calls.mono HLen.out ?_
      rintro e w' ⟨rfl, hw⟩; rw [hw]; clear hw w' HLen
      go_wp2_with fail
      refine ⟨⟨k + 1, cap, x, l, Tb, ⟨rfl, rfl, rfl, rfl, rfl, rfl, by go_num⟩, by omega, by omega, by omega, HE.out⟩, ?_⟩
      simp [Rmu, intOf]; omega

end Go.Proofs.Ytgoejoiomjmfaaa

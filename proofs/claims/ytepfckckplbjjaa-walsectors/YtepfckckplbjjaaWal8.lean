/- The log: the latest master; a life at a number; a new life's master. Own lemmas, no statement. -/
import Derived.Test.YtepfckckplbjjaaWal7
namespace Go.Proofs.Ytepfckckplbjjaa
open Go.ChangeShapes Go.WideShapes Go.ChangeAt Go.RowKit

def latStep (s : LSt) (st : DSt) (which : Nat) (cur : Mst) : Except Nat Mst := match st.got (s.from_ + which) with
  | .error c => if c = 9 then .ok cur else .error c
  | .ok b => match readM b which with
    | none => .ok cur
    | some m => if cur.writing < m.writing then .ok m else .ok cur
def m0 : Mst := ⟨0, 0, 0, 0⟩
/-- The latest master: of the first k. -/
def latTo (s : LSt) (st : DSt) : Nat → Except Nat Mst
  | 0 => .ok m0
  | k + 1 => match latTo s st k with
    | .error c => .error c
    | .ok m => latStep s st k m
def LatP (w : World) (r : Except Nat Mst) (e : Ending) (w' : World) : Prop :=
  Below w.heap.size w w' ∧ match r with
    | .ok m => e = .returned (.tuple #[.agg m.cs, .int .i64 0])
    | .error c => e = .returned (.tuple #[.agg mZ, .int .i64 (c : Int)])
structure LatS (w wr : World) (g : Nat) (f : Foot) (s : LSt) (st : DSt) (m : Mst) : Prop where
  z : Blk wr w.heap.size mZ 72
  p : Blk wr (w.heap.size + 1) m.cs 72
  l : WL wr g f s st
  bel : Below w.heap.size w wr
theorem LatS.below {w wr wx : World} {g : Nat} {f : Foot} {s : LSt} {st : DSt} {m : Mst} (h : LatS w wr g f s st m) (hb : Below wr.heap.size wr wx) : LatS w wx g f s st m :=
  ⟨h.z.of (hb.block _ h.z.lt), h.p.of (hb.block _ h.p.lt), h.l.below hb, h.bel.trans (hb.mono h.bel.size)⟩
theorem LatS.set {w wr : World} {g : Nat} {f : Foot} {s : LSt} {st : DSt} {m m' : Mst} (hL : ∀ i, (i = g ∨ f.has i) → i < w.heap.size) (h : LatS w wr g f s st m) :
    LatS w ((((wr.setCell ⟨w.heap.size + 1, 0, none⟩ (.int .u64 (m'.writing : Int))).setCell ⟨w.heap.size + 1, 1, none⟩ (.int .u64 (m'.life : Int))).setCell ⟨w.heap.size + 1, 2, none⟩ (.int .u64 (m'.first : Int))).setCell ⟨w.heap.size + 1, 3, none⟩ (.int .u64 (m'.least : Int))) g f s st m' := by
  have hc4 : Chg (fun j => j = w.heap.size + 1) wr ((((wr.setCell ⟨w.heap.size + 1, 0, none⟩ (.int .u64 (m'.writing : Int))).setCell ⟨w.heap.size + 1, 1, none⟩ (.int .u64 (m'.life : Int))).setCell ⟨w.heap.size + 1, 2, none⟩ (.int .u64 (m'.first : Int))).setCell ⟨w.heap.size + 1, 3, none⟩ (.int .u64 (m'.least : Int))) :=
    ((((Chg.refl (fun j => j = w.heap.size + 1) wr).setCell ⟨w.heap.size + 1, 0, none⟩ (fun _ => rfl) _).setCell ⟨w.heap.size + 1, 1, none⟩ (fun _ => rfl) _).setCell ⟨w.heap.size + 1, 2, none⟩ (fun _ => rfl) _).setCell ⟨w.heap.size + 1, 3, none⟩ (fun _ => rfl) _
  refine ⟨h.z.chg hc4 (by omega), ?_, h.l.chg hc4 (fun e => by have := hL g (.inl rfl); have : g = w.heap.size + 1 := e; omega) (fun i hi e => by have := hL i (.inr hi); have : i = w.heap.size + 1 := e; omega), h.bel.trans (hc4.below h.bel.size (fun j e => by have : j = w.heap.size + 1 := e; omega))⟩
  have := (((h.p.set 0 (.int .u64 (m'.writing : Int))).set 1 (.int .u64 (m'.life : Int))).set 2 (.int .u64 (m'.first : Int))).set 3 (.int .u64 (m'.least : Int))
  simpa [Mst.cs] using this
theorem LatS.ret {w wr : World} {g : Nat} {f : Foot} {s : LSt} {st : DSt} {m : Mst} (h : LatS w wr g f s st m) (a0 a1 a2 a3 : Value) :
    Blk ((((wr.setCell ⟨w.heap.size, 0, none⟩ a0).setCell ⟨w.heap.size, 1, none⟩ a1).setCell ⟨w.heap.size, 2, none⟩ a2).setCell ⟨w.heap.size, 3, none⟩ a3) w.heap.size #[a0, a1, a2, a3] 72 ∧ Below w.heap.size w ((((wr.setCell ⟨w.heap.size, 0, none⟩ a0).setCell ⟨w.heap.size, 1, none⟩ a1).setCell ⟨w.heap.size, 2, none⟩ a2).setCell ⟨w.heap.size, 3, none⟩ a3) :=
  ⟨by simpa [mZ] using (((h.z.set 0 a0).set 1 a1).set 2 a2).set 3 a3, (((h.bel.setCell (Nat.le_refl _) _).setCell (Nat.le_refl _) _).setCell (Nat.le_refl _) _).setCell (Nat.le_refl _) _⟩
theorem readM_wf {b : List UInt8} {which : Nat} {m : Mst} (h : readM b which = some m) : m.writing < 18446744073709551616 ∧ m.life < 18446744073709551616 ∧ m.first ≤ 4611686018427387903 ∧ m.least < 18446744073709551616 := by
  unfold readM at h
  split at h
  · rename_i hc
    cases h
    refine ⟨(rnum_facts _ _ _).1, (rnum_facts _ _ _).1, ?_, (rnum_facts _ _ _).1⟩
    have h3 := (rnum_facts (mr2 b).2.1 (mr2 b).2.2 4611686018427387903).2.1
    refine h3 ?_
    rcases Nat.eq_zero_or_pos (mr3 b).2.2 with e | e
    · exact e
    · have h4 := hc.1
      unfold mr4 rnum at h4
      rw [if_pos (by omega)] at h4
      simp only at h4
      omega
  · cases h
def Mst.wf (m : Mst) : Prop := m.writing < 18446744073709551616 ∧ m.life < 18446744073709551616 ∧ m.first ≤ 4611686018427387903 ∧ m.least < 18446744073709551616
theorem latStep_wf {s : LSt} {st : DSt} {k : Nat} {cur m : Mst} (h : latStep s st k cur = .ok m) (hc : cur.wf) : m.wf := by
  unfold latStep at h
  split at h
  · split at h
    · cases h; exact hc
    · cases h
  · split at h
    · cases h; exact hc
    · rename_i m' hm'
      split at h
      · cases h; exact readM_wf hm'
      · cases h; exact hc

set_option maxRecDepth 10000 in
set_option maxHeartbeats 4000000 in
theorem latest_any {w : World} {g : Nat} {f : Foot} {s : LSt} {st : DSt} (h : WL w g f s st) : Calls Try.prog 38 #[lptr g] w (LatP w (latTo s st 2)) := by
  have hb0 : Below w.heap.size w ((w.alloc (.cells mZ 72)).alloc (.cells m0.cs 72)) := ((Below.refl _ _).alloc (Nat.le_refl _) _).alloc (by simp) _
  have k1 := Blk.new (w.alloc (.cells mZ 72)) m0.cs 72
  rw [show (w.alloc (.cells mZ 72)).heap.size = w.heap.size + 1 by simp] at k1
  have HS0 : Hid (LatS w ((w.alloc (.cells mZ 72)).alloc (.cells m0.cs 72)) g f s st m0) := ⟨(Blk.new w _ _).alloc _, k1, h.below hb0, hb0⟩
  have HL : Hid (∀ i, (i = g ∨ f.has i) → i < w.heap.size) := fun i hi => by
    rcases hi with rfl | hi
    · exact h.lt.1
    · exact h.lt.2 i hi
  have hfr : s.from_ < 65536 := h.bounds.2
  clear hb0 k1 h
  unfold lptr
  go_enter Try.func38, Try.ntmps38
  go_wp2_with fail
  go_loopw [11] (fun v wr => ∃ (k : Nat) (m : Mst), v = .int .i64 (k : Int) ∧ k ≤ 2 ∧ LatS w wr g f s st m ∧ m.wf ∧ latTo s st k = .ok m) (fun v _ => 2 - (intOf v).toNat)
  case atStart => exact ⟨0, m0, rfl, by omega, HS0.out, by unfold Mst.wf m0; decide, rfl⟩
  case round =>
    clear HS0
    obtain ⟨k, m, rfl, hk, hS, hwf, hT⟩ := hrel
    have HS : Hid (LatS w wr g f s st m) := hS
    have HT : Hid (latTo s st k = .ok m ∧ m.wf) := ⟨hT, hwf⟩
    clear hS hT hwf
    by_cases hk2 : k < 2
    · have hd : decide ((k : Int) < 2) = true := decide_eq_true (by omega)
      have hSd := HS.out.below (wx := wr.drew) (Below.refl _ _).drew
      have c0 : wr.drew.cell? ⟨g, 0, none⟩ = some (.pointer (some ⟨f.g, 0, none⟩)) := Blk.cell hSd.l.l 0
      have c1 : wr.drew.cell? ⟨g, 1, none⟩ = some (.int .i64 (s.from_ : Int)) := Blk.cell hSd.l.l 1
      have hrd := read_got f st (s.from_ + k) wr.drew hSd.l.d
      have HRD : Hid (Calls _ _ _ _ _) := hrd
      have HSd : Hid (LatS w wr.drew g f s st m) := hSd
      clear hSd hrd
      unfold dptr at HRD
      go_wp2_with fail
      have y0 := cellX c0
      have y1 := cellX c1
      haveI nA := cls_ext wr.drew
      refine wp_region_ext (by kernel_rfl) ?_
      refine wpAnyH_seg (by kernel_rfl) (fun _ _ _ h => h) [0, 1, 2, 3, 4, 5, 6, 7, 8, 9] 6 _ _ _ (Ext.refl _) (by kernel_rfl) ?_
      simp only [opsAt, List.getElem?_toArray, List.getElem?_cons_zero, List.getElem?_cons_succ, List.cons_append, List.nil_append]
      repeat (go_big_quiet_step (fail))
      refine wpQuiet_nil ?_
      clear y0 y1 nA c0 c1
      refine wpAnyH_callE (i := 10) (fuel := 5) 25 rfl (by kernel_rfl) rfl (Ext.refl _) (by kernel_rfl) (f := 34) (args := #[.pointer (some ⟨f.g, 0, none⟩), .int .i64 ((s.from_ + k : Nat) : Int)]) (by kernel_rfl) HRD.out ?_
      rintro e w2 ⟨hb2, hgot⟩
      have HXT : Hid (Ext wr.drew w2) := hb2
      have HS2 : Hid (LatS w w2 g f s st m) := HSd.out.below hb2
      have hstep : latTo s st (k + 1) = latStep s st k m := by
        conv => lhs; unfold latTo
        rw [HT.out.1]
      have HST : Hid (latTo s st (k + 1) = latStep s st k m) := hstep
      clear hb2 HRD HSd hstep
      cases hg : st.got (s.from_ + k) with
      | error cd =>
        have hcd : cd = 1 ∨ cd = 8 ∨ cd = 9 := by
          unfold DSt.got at hg
          split at hg
          · cases hg; exact .inl rfl
          · split at hg
            · cases hg; exact .inr (.inl rfl)
            · split at hg
              · cases hg; exact .inr (.inr rfl)
              · cases hg
        rw [hg] at hgot
        simp only at hgot
        subst hgot
        refine ⟨_, rfl, HXT.out, ?_⟩
        haveI nB := cls_ext w2
        simp only [Act.put, List.setIfInBounds_toArray, List.set_cons_succ, List.set_cons_zero]
        refine wpAnyH_seg (by kernel_rfl) (fun _ _ _ h => h) [11, 12, 13, 14, 15] 0 _ _ _ (Ext.refl _) (by kernel_rfl) ?_
        simp only [opsAt, List.getElem?_toArray, List.getElem?_cons_zero, List.getElem?_cons_succ, List.cons_append, List.nil_append]
        repeat (go_big_quiet_step (fail))
        refine wpQuiet_nil ?_
        clear nB
        refine wpAnyH_done (by kernel_rfl) (NoPanic.normal ?_) 0
        by_cases h9 : cd = 9
        · subst h9
          have HR : Hid (latTo s st (k + 1) = .ok m) := by
            have := HST.out
            unfold latStep at this
            rw [hg] at this
            exact this
          clear hg hcd
          go_wp2_with fail
          go_roundw
          case rel => exact ⟨k + 1, m, by go_num, by omega, HS2.out, HT.out.2, HR.out⟩
          case measure => simp [intOf]; omega
        · have HR : Hid (latTo s st 2 = .error cd) := by
            have h1 := HST.out
            unfold latStep at h1
            rw [hg] at h1
            simp only at h1
            rw [if_neg h9] at h1
            rcases (show k = 0 ∨ k = 1 by omega) with rfl | rfl
            · have : latTo s st 2 = match latTo s st 1 with | .error c => .error c | .ok m => latStep s st 1 m := rfl
              rw [this, h1]
              exact (rfl : (Except.error cd : Except Nat Mst) = .error cd)
            · exact h1
          have q1 : ((cd : Int) == 9) = false := by simp; omega
          have q2 : ((cd : Int) != 0) = true := by simp; omega
          have z0 : w2.cell? ⟨w.heap.size, 0, none⟩ = some (.int .u64 0) := HS2.out.z.cell 0
          have z1 : w2.cell? ⟨w.heap.size, 1, none⟩ = some (.int .u64 0) := HS2.out.z.cell 1
          have z2 : w2.cell? ⟨w.heap.size, 2, none⟩ = some (.int .u64 0) := HS2.out.z.cell 2
          have z3 : w2.cell? ⟨w.heap.size, 3, none⟩ = some (.int .u64 0) := HS2.out.z.cell 3
          have f0 := HS2.out.z.frozen 0
          have f1 := HS2.out.z.frozen 1
          have f2 := HS2.out.z.frozen 2
          have f3 := HS2.out.z.frozen 3
          clear hg hcd
          go_wp2_with fail
          refine bodyPost_ret (results_pair (ty := 72) rfl _ _ w.heap.size 72 mZ (.int .i64 (cd : Int)) _ rfl rfl (HS2.out.ret _ _ _ _).1 Try.underlying72 rfl (by kernel_rfl)) rfl ?_
          rw [HR.out]
          exact ⟨(HS2.out.ret _ _ _ _).2, rfl⟩
      | ok b =>
        rw [hg] at hgot
        simp only at hgot
        obtain ⟨kb, rfl, hsrc, hlen⟩ := hgot
        have hrm := readMaster_any _ _ _ b k w2 hsrc (by omega) hk2
        have HRM : Hid (Calls _ _ _ _ _) := hrm
        have hstep2 : latTo s st (k + 1) = match readM b k with | none => .ok m | some m2 => if m.writing < m2.writing then .ok m2 else .ok m := by
          have := HST.out
          unfold latStep at this
          rw [hg] at this
          exact this
        clear hg hrm hsrc hlen
        refine ⟨_, rfl, HXT.out, ?_⟩
        haveI nB := cls_ext w2
        simp only [Act.put, List.setIfInBounds_toArray, List.set_cons_succ, List.set_cons_zero]
        refine wpAnyH_seg (by kernel_rfl) (fun _ _ _ h => h) [11, 12, 13, 14, 15] 0 _ _ _ (Ext.refl _) (by kernel_rfl) ?_
        simp only [opsAt, List.getElem?_toArray, List.getElem?_cons_zero, List.getElem?_cons_succ, List.cons_append, List.nil_append]
        repeat (go_big_quiet_step (fail))
        refine wpQuiet_nil ?_
        clear nB
        refine wpAnyH_done (by kernel_rfl) (NoPanic.normal ?_) 0
        go_wp2_with fail
        refine Calls.mono HRM.out ?_
        rintro e w3 ⟨rfl, hb3⟩
        have HS3 : Hid (LatS w w3 g f s st m) := HS2.out.below hb3
        clear hb3 HRM
        cases hm2 : readM b k with
        | none =>
          rw [hm2] at hstep2
          have HR : Hid (latTo s st (k + 1) = .ok m) := hstep2
          unfold mO mZ
          rw [Option.isSome_none]
          have HS4 : Hid (LatS w (w3.alloc (.cells #[.int .u64 0, .int .u64 0, .int .u64 0, .int .u64 0] 72)) g f s st m) := HS3.out.below ((Below.refl _ _).alloc (Nat.le_refl _) _)
          clear hm2 hstep2
          go_wp2_with fail
          go_roundw
          case rel => exact ⟨k + 1, m, by go_num, by omega, HS4.out, HT.out.2, HR.out⟩
          case measure => simp [intOf]; omega
        | some m2 =>
          rw [hm2] at hstep2
          have hwf2 := readM_wf hm2
          unfold mO Mst.cs
          rw [Option.isSome_some]
          have HS4 : Hid (LatS w (w3.alloc (.cells #[.int .u64 (m2.writing : Int), .int .u64 (m2.life : Int), .int .u64 (m2.first : Int), .int .u64 (m2.least : Int)] 72)) g f s st m) := HS3.out.below ((Below.refl _ _).alloc (Nat.le_refl _) _)
          have HM4 : Hid (Blk (w3.alloc (.cells #[.int .u64 (m2.writing : Int), .int .u64 (m2.life : Int), .int .u64 (m2.first : Int), .int .u64 (m2.least : Int)] 72)) w3.heap.size #[.int .u64 (m2.writing : Int), .int .u64 (m2.life : Int), .int .u64 (m2.first : Int), .int .u64 (m2.least : Int)] 72) := Blk.new _ _ _
          generalize hW4 : w3.alloc (.cells #[.int .u64 (m2.writing : Int), .int .u64 (m2.life : Int), .int .u64 (m2.first : Int), .int .u64 (m2.least : Int)] 72) = W4 at *
          have y0 : W4.cell? ⟨w3.heap.size, 0, none⟩ = some (.int .u64 (m2.writing : Int)) := HM4.out.cell 0
          have y1 : W4.cell? ⟨w3.heap.size, 1, none⟩ = some (.int .u64 (m2.life : Int)) := HM4.out.cell 1
          have y2 : W4.cell? ⟨w3.heap.size, 2, none⟩ = some (.int .u64 (m2.first : Int)) := HM4.out.cell 2
          have y3 : W4.cell? ⟨w3.heap.size, 3, none⟩ = some (.int .u64 (m2.least : Int)) := HM4.out.cell 3
          have x0 : W4.cell? ⟨w.heap.size + 1, 0, none⟩ = some (.int .u64 (m.writing : Int)) := HS4.out.p.cell 0
          have x1 : W4.cell? ⟨w.heap.size + 1, 1, none⟩ = some (.int .u64 (m.life : Int)) := HS4.out.p.cell 1
          have x2 : W4.cell? ⟨w.heap.size + 1, 2, none⟩ = some (.int .u64 (m.first : Int)) := HS4.out.p.cell 2
          have x3 : W4.cell? ⟨w.heap.size + 1, 3, none⟩ = some (.int .u64 (m.least : Int)) := HS4.out.p.cell 3
          have f0 := HS4.out.p.frozen 0
          have f1 := HS4.out.p.frozen 1
          have f2 := HS4.out.p.frozen 2
          have f3 := HS4.out.p.frozen 3
          by_cases hgt : m.writing < m2.writing
          · simp only [hgt, if_true] at hstep2
            have HR : Hid (latTo s st (k + 1) = .ok m2) := hstep2
            have HWF : Hid (m2.wf) := hwf2
            have hd5 : decide ((m.writing : Int) < (m2.writing : Int)) = true := decide_eq_true (by omega)
            have HS5 : Hid (LatS w _ g f s st m2) := HS4.out.set (m' := m2) HL.out
            clear hm2 hstep2 hwf2
            go_wp2_with fail
            go_roundw
            case rel => exact ⟨k + 1, m2, by go_num, by omega, HS5.out, HWF.out, HR.out⟩
            case measure => simp [intOf]; omega
          · simp only [hgt, if_false] at hstep2
            have HR : Hid (latTo s st (k + 1) = .ok m) := hstep2
            have hd5 : decide ((m.writing : Int) < (m2.writing : Int)) = false := decide_eq_false (by omega)
            clear hm2 hstep2 hwf2
            go_wp2_with fail
            go_roundw
            case rel => exact ⟨k + 1, m, by go_num, by omega, HS4.out, HT.out.2, HR.out⟩
            case measure => simp [intOf]; omega
    · obtain rfl : k = 2 := by omega
      have hS := HS.out
      have y0 : wr.cell? ⟨w.heap.size + 1, 0, none⟩ = some (.int .u64 (m.writing : Int)) := hS.p.cell 0
      have y1 : wr.cell? ⟨w.heap.size + 1, 1, none⟩ = some (.int .u64 (m.life : Int)) := hS.p.cell 1
      have y2 : wr.cell? ⟨w.heap.size + 1, 2, none⟩ = some (.int .u64 (m.first : Int)) := hS.p.cell 2
      have y3 : wr.cell? ⟨w.heap.size + 1, 3, none⟩ = some (.int .u64 (m.least : Int)) := hS.p.cell 3
      have z0 : wr.cell? ⟨w.heap.size, 0, none⟩ = some (.int .u64 0) := hS.z.cell 0
      have z1 : wr.cell? ⟨w.heap.size, 1, none⟩ = some (.int .u64 0) := hS.z.cell 1
      have z2 : wr.cell? ⟨w.heap.size, 2, none⟩ = some (.int .u64 0) := hS.z.cell 2
      have z3 : wr.cell? ⟨w.heap.size, 3, none⟩ = some (.int .u64 0) := hS.z.cell 3
      have f0 := hS.z.frozen 0
      have f1 := hS.z.frozen 1
      have f2 := hS.z.frozen 2
      have f3 := hS.z.frozen 3
      clear hS
      go_wp2_with fail
      refine bodyPost_ret (results_pair (ty := 72) rfl _ _ w.heap.size 72 m.cs (.int .i64 0) _ rfl rfl (HS.out.ret _ _ _ _).1 Try.underlying72 rfl (by kernel_rfl)) rfl ?_
      rw [HT.out.1]
      exact ⟨(HS.out.ret _ _ _ _).2, rfl⟩
end Go.Proofs.Ytepfckckplbjjaa

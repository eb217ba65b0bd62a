/- The log: a master written. Own lemmas, no statement. -/
import Derived.Test.YtepfckckplbjjaaWal10
import Derived.Test.YtepfckckplbjjaaOps
namespace Go.Proofs.Ytepfckckplbjjaa
open Go.ChangeShapes Go.WideShapes Go.ChangeAt Go.RowKit

/-- What a call on a log may do: new blocks, to its own, to its disk's. -/
structure LTurn (g : Nat) (f : Foot) (w : World) (f' : Foot) (w' : World) : Prop where
  same : f'.g = f.g
  new : ∀ k, f'.has k → f.has k ∨ w.heap.size ≤ k
  chg : Chg (fun k => k = g ∨ f.has k) w w'
theorem LTurn.refl (g : Nat) (f : Foot) (w : World) : LTurn g f w f w := ⟨rfl, fun _ h => .inl h, Chg.refl _ _⟩
theorem LTurn.trans {g : Nat} {f f' f'' : Foot} {w w' w'' : World} (hg : g < w.heap.size) (h : LTurn g f w f' w') (k : LTurn g f' w' f'' w'') : LTurn g f w f'' w'' :=
  ⟨k.same.trans h.same, fun i hi => by
    rcases k.new i hi with h' | h'
    · exact h.new i h'
    · exact .inr (Nat.le_trans h.chg.size h'), h.chg.trans k.chg (fun i hi e => by
      rcases e with rfl | e
      · exact .inl rfl
      · rcases h.new i e with h' | h'
        · exact .inr h'
        · omega)⟩
theorem LTurn.of_below {g : Nat} {f : Foot} {w w' : World} (k : Below w.heap.size w w') : LTurn g f w f w' := ⟨rfl, fun _ h => .inl h, Chg.of_below k (fun _ h e => by omega)⟩
theorem LTurn.of {g : Nat} {f f' : Foot} {w w' : World} (h : Turned f w f' w') : LTurn g f w f' w' := ⟨h.g, h.new, h.chg.mono (fun _ _ e => .inr e)⟩

def Mst.next (m : Mst) : Mst := ⟨m.writing + 1, m.life, m.first, m.least⟩
/-- A master is written: what is answered, the log, the disk. -/
def leadS (s : LSt) (st : DSt) (m : Mst) : Nat × LSt × DSt :=
  if (st.wr (s.from_ + (m.writing + 1) % 2) (mBytes m.next)).1 ≠ 0 then ((st.wr (s.from_ + (m.writing + 1) % 2) (mBytes m.next)).1, s, (st.wr (s.from_ + (m.writing + 1) % 2) (mBytes m.next)).2)
  else if (st.wr (s.from_ + (m.writing + 1) % 2) (mBytes m.next)).2.sy.1 ≠ 0 then ((st.wr (s.from_ + (m.writing + 1) % 2) (mBytes m.next)).2.sy.1, s, (st.wr (s.from_ + (m.writing + 1) % 2) (mBytes m.next)).2.sy.2)
  else (0, ⟨s.from_, s.room, m.writing + 1, m.life, m.first, m.least, s.next, s.next⟩, (st.wr (s.from_ + (m.writing + 1) % 2) (mBytes m.next)).2.sy.2)
theorem wr_err (st : DSt) (i : Nat) (b : List UInt8) : (st.wr i b).1 = 0 ∨ (st.wr i b).1 = 8 := by
  unfold DSt.wr
  split
  · exact .inr rfl
  · simp only
    split
    · exact .inr rfl
    · exact .inl rfl
theorem sy_err (st : DSt) : st.sy.1 = 0 ∨ st.sy.1 = 8 := by
  unfold DSt.sy
  split
  · exact .inr rfl
  · split
    · exact .inr rfl
    · exact .inl rfl
theorem wr_steps (st : DSt) (i : Nat) (b : List UInt8) : (st.wr i b).2.steps ≤ st.steps + 1 ∧ (st.wr i b).2.waits.length ≤ st.waits.length + 1 := by
  unfold DSt.wr
  split
  · exact ⟨Nat.le_succ _, Nat.le_succ _⟩
  · unfold DSt.stepped DSt.written
    simp only
    split
    · exact ⟨by simp, by simp⟩
    · exact ⟨by simp, by simp⟩

theorem leadS_1 {s : LSt} {st st3 : DSt} {m : Mst} (h : st.wr (s.from_ + (m.writing + 1) % 2) (mBytes m.next) = (8, st3)) : leadS s st m = (8, s, st3) := by
  unfold leadS; rw [h]; rfl
theorem leadS_2 {s : LSt} {st st3 st4 : DSt} {m : Mst} (h : st.wr (s.from_ + (m.writing + 1) % 2) (mBytes m.next) = (0, st3)) (h2 : st3.sy = (8, st4)) : leadS s st m = (8, s, st4) := by
  unfold leadS; rw [h]; simp only; rw [h2]; rfl
theorem leadS_3 {s : LSt} {st st3 st4 : DSt} {m : Mst} (h : st.wr (s.from_ + (m.writing + 1) % 2) (mBytes m.next) = (0, st3)) (h2 : st3.sy = (0, st4)) : leadS s st m = (0, ⟨s.from_, s.room, m.writing + 1, m.life, m.first, m.least, s.next, s.next⟩, st4) := by
  unfold leadS; rw [h]; simp only; rw [h2]; rfl

set_option maxRecDepth 10000 in
set_option maxHeartbeats 4000000 in
theorem lead_any {w : World} {g : Nat} {f : Foot} {s : LSt} {st : DSt} (h : WL w g f s st) (m : Mst) (hm : m.writing + 1 < 18446744073709551616 ∧ m.life < 18446744073709551616 ∧ m.first < 18446744073709551616 ∧ m.least < 18446744073709551616) (hst : st.steps < 4611686018427387000) (hwl : st.waits.length < 1099511627000) :
    Calls Try.prog 40 #[lptr g, .agg m.cs] w fun e w' => e = .returned (.int .i64 ((leadS s st m).1 : Int)) ∧ ∃ f', WL w' g f' (leadS s st m).2.1 (leadS s st m).2.2 ∧ LTurn g f w f' w' := by
  have hb1 : Below w.heap.size w (w.alloc (.cells #[.int .u64 ((m.writing : Int) + 1), .int .u64 (m.life : Int), .int .u64 (m.first : Int), .int .u64 (m.least : Int)] 72)).drew := ((Below.refl _ _).alloc (Nat.le_refl _) _).drew
  have HB1 : Hid (Below w.heap.size w (w.alloc (.cells #[.int .u64 ((m.writing : Int) + 1), .int .u64 (m.life : Int), .int .u64 (m.first : Int), .int .u64 (m.least : Int)] 72)).drew) := hb1
  have hW1 : WL (w.alloc (.cells #[.int .u64 ((m.writing : Int) + 1), .int .u64 (m.life : Int), .int .u64 (m.first : Int), .int .u64 (m.least : Int)] 72)).drew g f s st := h.below hb1
  have HW1 : Hid (WL (w.alloc (.cells #[.int .u64 ((m.writing : Int) + 1), .int .u64 (m.life : Int), .int .u64 (m.first : Int), .int .u64 (m.least : Int)] 72)).drew g f s st) := hW1
  have HK1 : Hid (Blk (w.alloc (.cells #[.int .u64 ((m.writing : Int) + 1), .int .u64 (m.life : Int), .int .u64 (m.first : Int), .int .u64 (m.least : Int)] 72)).drew w.heap.size #[.int .u64 ((m.writing : Int) + 1), .int .u64 (m.life : Int), .int .u64 (m.first : Int), .int .u64 (m.least : Int)] 72) := Blk.new _ _ _
  have hxb : ¬ f.has w.heap.size := fun e => by have := h.lt.2 _ e; omega
  have HLT : Hid (g < w.heap.size ∧ ¬ f.has w.heap.size) := ⟨h.lt.1, hxb⟩
  have hbd := h.bounds
  have c0 := cellC (S := f.has) (Blk.cell hW1.l 0 : _ = some (.pointer (some ⟨f.g, 0, none⟩))) hW1.ap
  have c1 := cellC (S := f.has) (Blk.cell hW1.l 1 : _ = some (.int .i64 (s.from_ : Int))) hW1.ap
  have b0 := cellC (S := f.has) (HK1.out.cell 0 : _ = some (.int .u64 ((m.writing : Int) + 1))) hxb
  have b1 := cellC (S := f.has) (HK1.out.cell 1 : _ = some (.int .u64 (m.life : Int))) hxb
  have b2 := cellC (S := f.has) (HK1.out.cell 2 : _ = some (.int .u64 (m.first : Int))) hxb
  have b3 := cellC (S := f.has) (HK1.out.cell 3 : _ = some (.int .u64 (m.least : Int))) hxb
  haveI nA := cls_chg f.has (w.alloc (.cells #[.int .u64 ((m.writing : Int) + 1), .int .u64 (m.life : Int), .int .u64 (m.first : Int), .int .u64 (m.least : Int)] 72)).drew
  have hmb := masterBytes_any m.next (w.alloc (.cells #[.int .u64 ((m.writing : Int) + 1), .int .u64 (m.life : Int), .int .u64 (m.first : Int), .int .u64 (m.least : Int)] 72)).drew hm.1 hm.2.1 hm.2.2.1 hm.2.2.2
  have HMB : Hid (Calls _ _ _ _ _) := hmb
  obtain ⟨hm1, hm2, hm3, hm4⟩ := hm
  clear hb1 hW1 hxb h hmb
  unfold lptr Mst.cs
  go_enter Try.func40, Try.ntmps40
  go_wp2_with fail
  refine wp_region_seg (Chg f.has (w.alloc (.cells #[.int .u64 ((m.writing : Int) + 1), .int .u64 (m.life : Int), .int .u64 (m.first : Int), .int .u64 (m.least : Int)] 72)).drew) (by kernel_rfl) ?_
  refine wpAnyH_seg (by kernel_rfl) (fun _ _ _ h => h) [0, 1, 2, 3, 4, 5, 6, 7, 8, 9, 10] 3 _ _ _ (Chg.refl _ _) (by kernel_rfl) ?_
  simp only [opsAt, List.getElem?_toArray, List.getElem?_cons_zero, List.getElem?_cons_succ, List.cons_append, List.nil_append]
  repeat (go_big_quiet_step (fail))
  refine wpQuiet_nil ?_
  clear c0 c1 b0 b1 b2 b3 nA
  refine wpAnyH_all (rs := [11]) (fuel := 2) (by kernel_rfl) (by simp) fun j hj => ?_
  obtain rfl : j = 11 := by simpa using hj
  refine wpOp_enter 27 rfl (by kernel_rfl) rfl (f := 56) (args := #[.agg m.next.cs]) (by kernel_rfl) HMB.out ?_
  rintro e w2 ⟨g2, k2, rfl, ho2, hb2⟩
  have HW2 : Hid (WL w2 g f s st) := HW1.out.below hb2
  have HK2 : Hid (Blk w2 w.heap.size #[.int .u64 ((m.writing : Int) + 1), .int .u64 (m.life : Int), .int .u64 (m.first : Int), .int .u64 (m.least : Int)] 72) := HK1.out.of (hb2.block _ HK1.out.lt)
  have HB2 : Hid (Below w.heap.size w w2) := HB1.out.trans (hb2.mono HB1.out.size)
  have hpl : s.from_ + (m.writing + 1) % 2 < st.now.length := by have := HW2.out.fit; have := HW2.out.r0; omega
  have HWR : Hid (Calls _ _ _ _ _) := write_gen f st (s.from_ + (m.writing + 1) % 2) _ _ _ (mBytes m.next) w2 HW2.out.d hpl ho2.src (by have := mBytes_length m.next; omega) (by omega) (by omega)
  have hS2 : Chg f.has (w.alloc (.cells #[.int .u64 ((m.writing : Int) + 1), .int .u64 (m.life : Int), .int .u64 (m.first : Int), .int .u64 (m.least : Int)] 72)).drew w2 := Chg.of_below hb2 (fun _ h e => by omega)
  have HS2 : Hid (Chg f.has _ w2) := hS2
  refine ⟨_, rfl, hS2, ?_⟩
  clear hb2 ho2 hS2 HMB HW1 HB1 HK1 hpl
  simp only [Act.put, List.setIfInBounds_toArray, List.set_cons_succ, List.set_cons_zero]
  refine wpAnyH_all (rs := [12]) (fuel := 1) (by kernel_rfl) (by simp) fun j hj => ?_
  obtain rfl : j = 12 := by simpa using hj
  refine wpOp_enter 28 rfl (by kernel_rfl) rfl (f := 35) (args := #[dptr f.g, .int .i64 ((s.from_ + (m.writing + 1) % 2 : Nat) : Int), .slice (some ⟨g2, 0, none⟩) (mBytes m.next).length k2]) (by kernel_rfl) HWR.out ?_
  rintro e w3 ⟨rfl, f3, hD3, hT3⟩
  have hS3 := HS2.out.trans hT3.chg (fun _ _ e => e)
  refine ⟨_, rfl, hS3, ?_⟩
  have HK3 : Hid (Blk w3 w.heap.size #[.int .u64 ((m.writing : Int) + 1), .int .u64 (m.life : Int), .int .u64 (m.first : Int), .int .u64 (m.least : Int)] 72) := HK2.out.chg hT3.chg HLT.out.2
  have HW3 : Hid (WL w3 g f3 s (st.wr (s.from_ + (m.writing + 1) % 2) (mBytes m.next)).2) := HW2.out.turn hT3 hD3 (wr_len _ _ _)
  have HT3 : Hid (LTurn g f w f3 w3) := (LTurn.of_below HB2.out).trans HLT.out.1 (LTurn.of hT3)
  have HX3 : Hid (¬ f3.has w.heap.size) := hT3.not HK2.out.lt HLT.out.2
  clear HWR HS2 hD3 hT3 HW2 HK2 HB2
  simp only [Act.put, List.setIfInBounds_toArray, List.set_cons_succ, List.set_cons_zero]
  haveI nB := cls_chg f.has (w.alloc (.cells #[.int .u64 ((m.writing : Int) + 1), .int .u64 (m.life : Int), .int .u64 (m.first : Int), .int .u64 (m.least : Int)] 72)).drew
  refine wpAnyH_seg (by kernel_rfl) (fun _ _ _ h => h) [13] 0 _ _ _ hS3 (by kernel_rfl) ?_
  simp only [opsAt, List.getElem?_toArray, List.getElem?_cons_zero, List.getElem?_cons_succ, List.cons_append, List.nil_append]
  repeat (go_big_quiet_step (fail))
  refine wpQuiet_nil ?_
  clear nB hS3
  refine wpAnyH_done (by kernel_rfl) (NoPanic.normal ?_) 0
  have hstp := wr_steps st (s.from_ + (m.writing + 1) % 2) (mBytes m.next)
  have herr := wr_err st (s.from_ + (m.writing + 1) % 2) (mBytes m.next)
  generalize hwr : st.wr (s.from_ + (m.writing + 1) % 2) (mBytes m.next) = R at *
  obtain ⟨c, st3⟩ := R
  rcases herr with h0 | h0
  · simp only at h0
    subst h0
    simp only at hstp HW3 ⊢
    have HR1 : Hid (st.wr (s.from_ + (m.writing + 1) % 2) (mBytes m.next) = (0, st3)) := hwr
    clear hwr
    have c0 : w3.cell? ⟨g, 0, none⟩ = some (.pointer (some ⟨f3.g, 0, none⟩)) := Blk.cell HW3.out.l 0
    have HSY : Hid (Calls _ _ _ _ _) := sync_gen f3 st3 w3 HW3.out.d (by omega)
    unfold dptr at HSY
    go_wp2_with fail
    refine Calls.mono HSY.out ?_
    rintro e w4 ⟨rfl, hD4, hT4⟩
    have HK4 : Hid (Blk w4 w.heap.size #[.int .u64 ((m.writing : Int) + 1), .int .u64 (m.life : Int), .int .u64 (m.first : Int), .int .u64 (m.least : Int)] 72) := HK3.out.chg hT4.chg HX3.out
    have HW4 : Hid (WL w4 g f3 s st3.sy.2) := HW3.out.turn hT4 hD4 (sy_len _)
    have HT4 : Hid (LTurn g f w f3 w4) := HT3.out.trans HLT.out.1 (LTurn.of hT4)
    clear hD4 hT4 HSY HW3 HK3 HT3 c0
    have herr := sy_err st3
    generalize hsy : st3.sy = R at *
    obtain ⟨c, st4⟩ := R
    rcases herr with h0 | h0
    · simp only at h0
      subst h0
      simp only at HW4 ⊢
      have HLS : Hid (leadS s st m = _) := leadS_3 HR1.out hsy
      clear hsy HR1
      go_wp2_with fail
      have c7 : ∀ x : Cls (fun x : World => x.cell? ⟨g, 7, none⟩ = some (.int .u64 (s.next : Int)) ∧ Blk x w.heap.size #[.int .u64 ((m.writing : Int) + 1), .int .u64 (m.life : Int), .int .u64 (m.first : Int), .int .u64 (m.least : Int)] 72), x.wd.cell? ⟨g, 7, none⟩ = some (.int .u64 (s.next : Int)) := fun x => x.ok.1
      have b0 : ∀ x : Cls (fun x : World => x.cell? ⟨g, 7, none⟩ = some (.int .u64 (s.next : Int)) ∧ Blk x w.heap.size #[.int .u64 ((m.writing : Int) + 1), .int .u64 (m.life : Int), .int .u64 (m.first : Int), .int .u64 (m.least : Int)] 72), x.wd.cell? ⟨w.heap.size, 0, none⟩ = some (.int .u64 ((m.writing : Int) + 1)) := fun x => x.ok.2.cell 0
      have b1 : ∀ x : Cls (fun x : World => x.cell? ⟨g, 7, none⟩ = some (.int .u64 (s.next : Int)) ∧ Blk x w.heap.size #[.int .u64 ((m.writing : Int) + 1), .int .u64 (m.life : Int), .int .u64 (m.first : Int), .int .u64 (m.least : Int)] 72), x.wd.cell? ⟨w.heap.size, 1, none⟩ = some (.int .u64 (m.life : Int)) := fun x => x.ok.2.cell 1
      have b2 : ∀ x : Cls (fun x : World => x.cell? ⟨g, 7, none⟩ = some (.int .u64 (s.next : Int)) ∧ Blk x w.heap.size #[.int .u64 ((m.writing : Int) + 1), .int .u64 (m.life : Int), .int .u64 (m.first : Int), .int .u64 (m.least : Int)] 72), x.wd.cell? ⟨w.heap.size, 2, none⟩ = some (.int .u64 (m.first : Int)) := fun x => x.ok.2.cell 2
      have b3 : ∀ x : Cls (fun x : World => x.cell? ⟨g, 7, none⟩ = some (.int .u64 (s.next : Int)) ∧ Blk x w.heap.size #[.int .u64 ((m.writing : Int) + 1), .int .u64 (m.life : Int), .int .u64 (m.first : Int), .int .u64 (m.least : Int)] 72), x.wd.cell? ⟨w.heap.size, 3, none⟩ = some (.int .u64 (m.least : Int)) := fun x => x.ok.2.cell 3
      have hS4 : w4.cell? ⟨g, 7, none⟩ = some (.int .u64 (s.next : Int)) ∧ Blk w4 w.heap.size #[.int .u64 ((m.writing : Int) + 1), .int .u64 (m.life : Int), .int .u64 (m.first : Int), .int .u64 (m.least : Int)] 72 := ⟨Blk.cell HW4.out.l 7, HK4.out⟩
      haveI nC : Nonempty (Cls (fun x : World => x.cell? ⟨g, 7, none⟩ = some (.int .u64 (s.next : Int)) ∧ Blk x w.heap.size #[.int .u64 ((m.writing : Int) + 1), .int .u64 (m.life : Int), .int .u64 (m.first : Int), .int .u64 (m.least : Int)] 72)) := ⟨⟨w4, hS4⟩⟩
      refine wp_region_seg (fun x : World => x.cell? ⟨g, 7, none⟩ = some (.int .u64 (s.next : Int)) ∧ Blk x w.heap.size #[.int .u64 ((m.writing : Int) + 1), .int .u64 (m.life : Int), .int .u64 (m.first : Int), .int .u64 (m.least : Int)] 72) (by kernel_rfl) ?_
      refine wpAnyH_seg (by kernel_rfl) (fun _ _ _ h => h) [0, 1, 2, 3, 4, 5, 6, 7, 8] 4 _ _ _ hS4 (by kernel_rfl) ?_
      simp only [opsAt, List.getElem?_toArray, List.getElem?_cons_zero, List.getElem?_cons_succ, List.cons_append, List.nil_append]
      repeat (go_big_quiet_step (fail))
      refine wpQuiet_nil ?_
      clear c7 b0 b1 b2 b3 nC hS4
      have hL4 : Blk w4.drew g (lC f3.g s) 74 := HW4.out.l
      have hne : w.heap.size ≠ g := by have := HLT.out.1; omega
      refine wpAnyH_all (rs := [9]) (fuel := 3) (by kernel_rfl) (by simp) fun j hj => ?_
      obtain rfl : j = 9 := by simpa using hj
      refine wpOp_storeN rfl (by kernel_rfl) 72 _ _ rfl rfl g 3 #[.int .u64 ((m.writing : Int) + 1), .int .u64 (m.life : Int), .int .u64 (m.first : Int), .int .u64 (m.least : Int)] rfl rfl (thereN 4 hL4 (show 3 + 4 ≤ 9 by omega)) (by kernel_rfl) (by simp [Value.oneCell']) ?_
      have hL5 := (((hL4.set 3 (.int .u64 ((m.writing : Int) + 1))).set 4 (.int .u64 (m.life : Int))).set 5 (.int .u64 (m.first : Int))).set 6 (.int .u64 (m.least : Int))
      have hK5 := (((HK4.out.setOther (b' := g) 3 (.int .u64 ((m.writing : Int) + 1)) hne).setOther (b' := g) 4 (.int .u64 (m.life : Int)) hne).setOther (b' := g) 5 (.int .u64 (m.first : Int)) hne).setOther (b' := g) 6 (.int .u64 (m.least : Int)) hne
      have hS5 : ((((w4.drew.setCell ⟨g, 3, none⟩ (.int .u64 ((m.writing : Int) + 1))).setCell ⟨g, 4, none⟩ (.int .u64 (m.life : Int))).setCell ⟨g, 5, none⟩ (.int .u64 (m.first : Int))).setCell ⟨g, 6, none⟩ (.int .u64 (m.least : Int))).cell? ⟨g, 7, none⟩ = some (.int .u64 (s.next : Int)) ∧ Blk ((((w4.drew.setCell ⟨g, 3, none⟩ (.int .u64 ((m.writing : Int) + 1))).setCell ⟨g, 4, none⟩ (.int .u64 (m.life : Int))).setCell ⟨g, 5, none⟩ (.int .u64 (m.first : Int))).setCell ⟨g, 6, none⟩ (.int .u64 (m.least : Int))) w.heap.size #[.int .u64 ((m.writing : Int) + 1), .int .u64 (m.life : Int), .int .u64 (m.first : Int), .int .u64 (m.least : Int)] 72 := ⟨by rw [hL5.cell]; rfl, hK5⟩
      refine ⟨hS5, ?_⟩
      haveI nC : Nonempty (Cls (fun x : World => x.cell? ⟨g, 7, none⟩ = some (.int .u64 (s.next : Int)) ∧ Blk x w.heap.size #[.int .u64 ((m.writing : Int) + 1), .int .u64 (m.life : Int), .int .u64 (m.first : Int), .int .u64 (m.least : Int)] 72)) := ⟨⟨_, hS5⟩⟩
      refine wpAnyH_seg (by kernel_rfl) (fun _ _ _ h => h) [10, 11] 1 _ _ _ hS5 (by kernel_rfl) ?_
      simp only [opsAt, List.getElem?_toArray, List.getElem?_cons_zero, List.getElem?_cons_succ, List.cons_append, List.nil_append]
      repeat (go_big_quiet_step (fail))
      refine wpQuiet_nil ?_
      clear nC hS5
      refine wpAnyH_all (rs := [12]) (fuel := 0) (by kernel_rfl) (by simp) fun j hj => ?_
      obtain rfl : j = 12 := by simpa using hj
      refine wpOp_store1 rfl (by kernel_rfl) 34 _ _ rfl rfl g 8 (.int .u64 (s.next : Int)) rfl rfl (thereN 1 hL5 (show 8 + 1 ≤ 9 by omega)) (by kernel_rfl) rfl ?_
      have hL6 := hL5.set 8 (.int .u64 (s.next : Int))
      have hK6 := hK5.setOther (b' := g) 8 (.int .u64 (s.next : Int)) hne
      refine ⟨⟨(hL6.cell 7).trans rfl, hK6⟩, ?_⟩
      refine wpAnyH_done (by kernel_rfl) (NoPanic.normal ?_) 0
      have HL6 : Hid (Blk _ g _ 74) := hL6
      have hch : Chg (fun k => k = g) w4 (((((w4.drew.setCell ⟨g, 3, none⟩ (.int .u64 ((m.writing : Int) + 1))).setCell ⟨g, 4, none⟩ (.int .u64 (m.life : Int))).setCell ⟨g, 5, none⟩ (.int .u64 (m.first : Int))).setCell ⟨g, 6, none⟩ (.int .u64 (m.least : Int))).setCell ⟨g, 8, none⟩ (.int .u64 (s.next : Int))) :=
        chgG (chgG (chgG (chgG (chgG (Chg.refl (fun k => k = g) w4).drew _ _) _ _) _ _) _ _) _ _
      have HCH : Hid (Chg (fun k => k = g) w4 _) := hch
      clear hL4 hL5 hL6 hK5 hK6 hch HK4
      simp only [World.setCells]
      go_wp2_with fail
      go_ret
      rw [HLS.out]
      refine ⟨rfl, f3, ⟨?_, HW4.out.d.keep HCH.out (fun i hi e => by subst e; exact HW4.out.ap hi), HW4.out.ap, HW4.out.r0, HW4.out.fit⟩, HT4.out.trans HLT.out.1 ⟨rfl, fun _ h => .inl h, HCH.out.mono (fun _ _ e => .inl e)⟩⟩
      exact HL6.out
    · simp only at h0
      subst h0
      have HLS : Hid (leadS s st m = _) := leadS_2 HR1.out hsy
      clear hsy HR1
      go_wp2_with fail
      go_ret
      rw [HLS.out]
      exact ⟨rfl, f3, HW4.out, HT4.out⟩
  · simp only at h0
    subst h0
    have HLS : Hid (leadS s st m = _) := leadS_1 hwr
    clear hwr
    go_wp2_with fail
    go_ret
    rw [HLS.out]
    exact ⟨rfl, f3, HW3.out, HT3.out⟩
end Go.Proofs.Ytepfckckplbjjaa

/- The log: forced; cut. Own lemmas, no statement. -/
import Derived.Test.YtepfckckplbjjaaWal12
namespace Go.Proofs.Ytepfckckplbjjaa
open Go.ChangeShapes Go.WideShapes Go.ChangeAt Go.RowKit

/-- Force: what is answered, the log, the disk. -/
def forceS (s : LSt) (st : DSt) : Nat × LSt × DSt := if s.safe = s.next then (0, s, st) else if st.sy.1 ≠ 0 then (st.sy.1, s, st.sy.2) else (0, { s with safe := s.next }, st.sy.2)
theorem force_nil (w : World) : Calls Try.prog 19 #[.pointer none] w fun e w' => e = .returned (.int .i64 1) ∧ w' = w := by
  go_enter Try.func19, Try.ntmps19
  go_wp2_with fail
  go_ret
  exact ⟨rfl, rfl⟩
theorem cut_nil (n : Int) (w : World) : Calls Try.prog 20 #[.pointer none, .int .u64 n] w fun e w' => e = .returned (.int .i64 1) ∧ w' = w := by
  go_enter Try.func20, Try.ntmps20
  go_wp2_with fail
  go_ret
  exact ⟨rfl, rfl⟩
def ForceP (w : World) (g : Nat) (f : Foot) (r : Nat × LSt × DSt) (e : Ending) (w' : World) : Prop := e = .returned (.int .i64 (r.1 : Int)) ∧ ∃ f', WL w' g f' r.2.1 r.2.2 ∧ LTurn g f w f' w'
set_option maxRecDepth 10000 in
set_option maxHeartbeats 4000000 in
theorem force_any {w : World} {g : Nat} {f : Foot} {s : LSt} {st : DSt} (h : WL w g f s st) (hst : st.steps < 4611686018427387000) : Calls Try.prog 19 #[lptr g] w (ForceP w g f (forceS s st)) := by
  have hg := h.lt.1
  have c7 : w.drew.cell? ⟨g, 7, none⟩ = some (.int .u64 (s.next : Int)) := Blk.cell h.l 7
  have c8 : w.drew.cell? ⟨g, 8, none⟩ = some (.int .u64 (s.safe : Int)) := Blk.cell h.l 8
  have HW : Hid (WL w.drew g f s st) := h.below (Below.refl _ _).drew
  have HT : Hid (LTurn g f w f w.drew) := LTurn.of_below (Below.refl _ _).drew
  clear h
  unfold lptr
  go_enter Try.func19, Try.ntmps19
  go_wp2_with fail
  have y7 := cellX c7
  have y8 := cellX c8
  haveI nA := cls_ext w.drew
  refine wp_region_ext (by kernel_rfl) ?_
  refine wpAnyH_seg (by kernel_rfl) (fun _ _ _ h => h) [0, 1, 2, 3, 4, 5, 6, 7, 8] 0 _ _ _ (Ext.refl _) (by kernel_rfl) ?_
  simp only [opsAt, List.getElem?_toArray, List.getElem?_cons_zero, List.getElem?_cons_succ, List.cons_append, List.nil_append]
  repeat (go_big_quiet_step (fail))
  refine wpQuiet_nil ?_
  clear y7 y8 nA c7 c8
  refine wpAnyH_done (by kernel_rfl) (NoPanic.normal ?_) 0
  by_cases hs : s.safe = s.next
  · have hd : ((s.safe : Int) == (s.next : Int)) = true := by rw [hs]; simp
    have HF : Hid (forceS s st = (0, s, st)) := by unfold forceS; rw [if_pos hs]; exact rfl
    clear hs
    go_wp2_with fail
    go_ret
    rw [HF.out]
    exact ⟨rfl, f, HW.out, HT.out⟩
  · have hd : ((s.safe : Int) == (s.next : Int)) = false := by simp; omega
    have c0 : w.drew.cell? ⟨g, 0, none⟩ = some (.pointer (some ⟨f.g, 0, none⟩)) := Blk.cell HW.out.l 0
    have HSY : Hid (Calls _ _ _ _ _) := sync_gen f st w.drew HW.out.d (by omega)
    have herr := sy_err st
    have HF0 : Hid (forceS s st = if st.sy.1 ≠ 0 then (st.sy.1, s, st.sy.2) else (0, { s with safe := s.next }, st.sy.2)) := by unfold forceS; rw [if_neg hs]; exact rfl
    clear hs
    unfold dptr at HSY
    go_wp2_with fail
    refine Calls.mono HSY.out ?_
    rintro e w4 ⟨rfl, hD4, hT4⟩
    have HW4 : Hid (WL w4 g f s st.sy.2) := HW.out.turn hT4 hD4 (sy_len _)
    have HT4 : Hid (LTurn g f w f w4) := HT.out.trans hg (LTurn.of hT4)
    clear hD4 hT4 HSY HW HT c0
    generalize hsy : st.sy = R at *
    obtain ⟨cd, st4⟩ := R
    rcases herr with h0 | h0
    · simp only at h0
      subst h0
      simp only at HW4 HF0 ⊢
      have c7 : w4.cell? ⟨g, 7, none⟩ = some (.int .u64 (s.next : Int)) := Blk.cell HW4.out.l 7
      have c8 : w4.cell? ⟨g, 8, none⟩ = some (.int .u64 (s.safe : Int)) := Blk.cell HW4.out.l 8
      have g8 := Blk.frozen HW4.out.l 8
      have hch : Chg (fun j => j = g) w4 (w4.setCell ⟨g, 8, none⟩ (.int .u64 (s.next : Int))) := chgG (Chg.refl _ _) _ _
      have HW5 : Hid (WL (w4.setCell ⟨g, 8, none⟩ (.int .u64 (s.next : Int))) g f { s with safe := s.next } st4) := ⟨Blk.set HW4.out.l 8 (.int .u64 (s.next : Int)), HW4.out.d.keep hch (fun i hi e => by subst e; exact HW4.out.ap hi), HW4.out.ap, HW4.out.r0, HW4.out.fit⟩
      have HT5 : Hid (LTurn g f w f (w4.setCell ⟨g, 8, none⟩ (.int .u64 (s.next : Int)))) := HT4.out.trans hg ⟨rfl, fun _ h => .inl h, hch.mono (fun _ _ e => .inl e)⟩
      clear hch hsy
      go_wp2_with fail
      go_ret
      rw [HF0.out]
      exact ⟨rfl, f, HW5.out, HT5.out⟩
    · simp only at h0
      subst h0
      simp only at HW4 HF0 ⊢
      clear hsy
      go_wp2_with fail
      go_ret
      rw [HF0.out]
      exact ⟨rfl, f, HW4.out, HT4.out⟩

/-- The life of the entry at a number, or the log's. -/
def lifeL (s : LSt) (st : DSt) (n : Nat) : Nat := if n < s.next then (match look s st n with | some p => p.life | none => s.life) else s.life
set_option maxRecDepth 10000 in
set_option maxHeartbeats 4000000 in
theorem lifeAt_any {w : World} {g : Nat} {f : Foot} {s : LSt} {st : DSt} (h : WL w g f s st) (n : Nat) (hn : n < 9223372036854775808) : Calls Try.prog 46 #[lptr g, .int .u64 (n : Int)] w fun e w' => e = .returned (.int .u64 (lifeL s st n : Int)) ∧ Below w.heap.size w w' := by
  have c7 : w.cell? ⟨g, 7, none⟩ = some (.int .u64 (s.next : Int)) := Blk.cell h.l 7
  have c4 : w.cell? ⟨g, 4, none⟩ = some (.int .u64 (s.life : Int)) := Blk.cell h.l 4
  have H1 : Hid (Calls _ _ _ _ _) := piece_any h n hn
  have HW : Hid (WL w g f s st) := h
  clear h
  unfold lptr at *
  by_cases hlt : n < s.next
  · have HL : Hid (lifeL s st n = match look s st n with | some p => p.life | none => s.life) := by unfold lifeL; rw [if_pos hlt]; exact rfl
    go_enter Try.func46, Try.ntmps46
    go_wp2_with fail
    refine Calls.mono H1.out ?_
    rintro e w2 ⟨rfl, hb2⟩
    have HB2 : Hid (Below w.heap.size w w2) := hb2
    have HW2 : Hid (WL w2 g f s st) := HW.out.below hb2
    clear hb2 H1 c7 c4
    cases hlk : look s st n with
    | none =>
      rw [hlk] at HL
      unfold pcO pcZ
      rw [Option.isSome_none]
      have HB3 : Hid (Below w.heap.size w (w2.alloc (.cells #[.int .u64 0, .int .u64 0, .bool false, .string ⟨#[]⟩] 83))) := HB2.out.alloc HB2.out.size _
      have hW3 := HW2.out.below ((Below.refl w2.heap.size w2).alloc (Nat.le_refl _) (.cells #[.int .u64 0, .int .u64 0, .bool false, .string ⟨#[]⟩] 83))
      have c4 : (w2.alloc (.cells #[.int .u64 0, .int .u64 0, .bool false, .string ⟨#[]⟩] 83)).cell? ⟨g, 4, none⟩ = some (.int .u64 (s.life : Int)) := Blk.cell hW3.l 4
      clear hW3 hlk
      go_wp2_with fail
      go_ret
      rw [HL.out]
      exact ⟨rfl, HB3.out⟩
    | some p =>
      rw [hlk] at HL
      unfold pcO pcV
      rw [Option.isSome_some]
      have HB3 : Hid (Below w.heap.size w (w2.alloc (.cells #[.int .u64 (n : Int), .int .u64 (p.life : Int), .bool p.last, .string ⟨p.text.toArray⟩] 83))) := HB2.out.alloc HB2.out.size _
      clear hlk
      go_wp2_with fail
      go_ret
      rw [HL.out]
      exact ⟨rfl, HB3.out⟩
  · have HL : Hid (lifeL s st n = s.life) := by unfold lifeL; rw [if_neg hlt]; exact rfl
    have HB : Hid (Below w.heap.size w w) := Below.refl _ _
    go_enter Try.func46, Try.ntmps46
    go_wp2_with fail
    go_ret
    rw [HL.out]
    exact ⟨rfl, HB.out⟩

theorem sy_steps (st : DSt) : st.sy.2.steps ≤ st.steps + 1 ∧ st.sy.2.waits.length ≤ st.waits.length := by
  unfold DSt.sy
  split
  · exact ⟨Nat.le_succ _, Nat.le_refl _⟩
  · unfold DSt.stepped DSt.synced
    split
    · rename_i hf
      simp only
      exact ⟨Nat.le_succ _, Nat.le_refl _⟩
    · rename_i hf
      simp only
      exact ⟨Nat.le_refl _, Nat.zero_le _⟩
theorem forceS_facts (s : LSt) (st : DSt) : ((forceS s st).1 = 0 ∨ (forceS s st).1 = 8) ∧ (∃ x, (forceS s st).2.1 = { s with safe := x }) ∧ (forceS s st).2.2.steps ≤ st.steps + 1 ∧ (forceS s st).2.2.waits.length ≤ st.waits.length := by
  have h1 := sy_steps st
  have h2 := sy_err st
  unfold forceS
  split
  · exact ⟨.inl rfl, ⟨s.safe, rfl⟩, Nat.le_succ _, Nat.le_refl _⟩
  · split
    · exact ⟨h2, ⟨s.safe, rfl⟩, h1⟩
    · exact ⟨.inl rfl, ⟨s.next, rfl⟩, h1⟩
theorem lifeL_lt {s : LSt} {st : DSt} {n : Nat} (h : s.life < 18446744073709551616) : lifeL s st n < 18446744073709551616 := by
  unfold lifeL
  split
  · split
    · rename_i p hp
      exact look_life hp
    · exact h
  · exact h
/-- Cut: what is answered, the log, the disk. -/
def cutS (s : LSt) (st : DSt) (lsn : Nat) : Nat × LSt × DSt :=
  if (forceS s st).1 ≠ 0 then forceS s st else if lsn = (forceS s st).2.1.first then forceS s st
  else leadS (forceS s st).2.1 (forceS s st).2.2 ⟨(forceS s st).2.1.writing, (forceS s st).2.1.life, lsn, lifeL (forceS s st).2.1 (forceS s st).2.2 lsn⟩
theorem cut_arg {w : World} {g : Nat} {f : Foot} {s : LSt} {st : DSt} (h : WL w g f s st) (lsn : Nat) (hb : lsn < s.first ∨ s.next < lsn) : Calls Try.prog 20 #[lptr g, .int .u64 (lsn : Int)] w fun e w' => e = .returned (.int .i64 1) ∧ w' = w := by
  have c7 : w.cell? ⟨g, 7, none⟩ = some (.int .u64 (s.next : Int)) := Blk.cell h.l 7
  have c5 : w.cell? ⟨g, 5, none⟩ = some (.int .u64 (s.first : Int)) := Blk.cell h.l 5
  clear h
  unfold lptr
  by_cases h1 : lsn < s.first
  · go_enter Try.func20, Try.ntmps20
    go_wp2_with fail
    go_ret
    exact ⟨rfl, rfl⟩
  · have h2 : s.next < lsn := by omega
    go_enter Try.func20, Try.ntmps20
    go_wp2_with fail
    go_ret
    exact ⟨rfl, rfl⟩
set_option maxRecDepth 10000 in
set_option maxHeartbeats 4000000 in
theorem cut_any {w : World} {g : Nat} {f : Foot} {s : LSt} {st : DSt} (h : WL w g f s st) (lsn : Nat) (h1 : s.first ≤ lsn) (h2 : lsn ≤ s.next) (hnx : s.next < 9223372036854775808) (hwr : s.writing + 1 < 18446744073709551616) (hlf : s.life < 18446744073709551616) (hst : st.steps < 4611686018427386000) (hwl : st.waits.length < 1099511627000) :
    Calls Try.prog 20 #[lptr g, .int .u64 (lsn : Int)] w (ForceP w g f (cutS s st lsn)) := by
  have hg := h.lt.1
  have c7 : w.cell? ⟨g, 7, none⟩ = some (.int .u64 (s.next : Int)) := Blk.cell h.l 7
  have c5 : w.cell? ⟨g, 5, none⟩ = some (.int .u64 (s.first : Int)) := Blk.cell h.l 5
  have HF : Hid (Calls _ _ _ _ _) := force_any h (by omega)
  obtain ⟨k1, ⟨x, k2⟩, k3, k4⟩ := forceS_facts s st
  have HC : Hid (cutS s st lsn = if (forceS s st).1 ≠ 0 then forceS s st else if lsn = (forceS s st).2.1.first then forceS s st
    else leadS (forceS s st).2.1 (forceS s st).2.2 ⟨(forceS s st).2.1.writing, (forceS s st).2.1.life, lsn, lifeL (forceS s st).2.1 (forceS s st).2.2 lsn⟩) := rfl
  clear h
  generalize forceS s st = R at *
  obtain ⟨cd, s2, st2⟩ := R
  simp only at k1 k2 k3 k4 HC
  subst k2
  unfold lptr at *
  go_enter Try.func20, Try.ntmps20
  go_wp2_with fail
  refine Calls.mono HF.out ?_
  rintro e w2 ⟨rfl, f2, hW2, hT2⟩
  simp only at hW2 ⊢
  have HW2 : Hid (WL w2 g f2 { s with safe := x } st2) := hW2
  have HT2 : Hid (LTurn g f w f2 w2) := hT2
  clear hW2 hT2 HF c5 c7
  rcases k1 with k1 | k1
  · subst k1
    have d5 : w2.cell? ⟨g, 5, none⟩ = some (.int .u64 (s.first : Int)) := Blk.cell HW2.out.l 5
    by_cases heq : lsn = s.first
    · have HCC : Hid (cutS s st lsn = (0, { s with safe := x }, st2)) := by rw [HC.out, if_neg (by simp), if_pos heq]; exact rfl
      have hd : ((lsn : Int) == (s.first : Int)) = true := by rw [heq]; simp
      clear heq HC
      go_wp2_with fail
      go_ret
      rw [HCC.out]
      exact ⟨rfl, f2, HW2.out, HT2.out⟩
    · have HCC : Hid (cutS s st lsn = leadS { s with safe := x } st2 ⟨s.writing, s.life, lsn, lifeL { s with safe := x } st2 lsn⟩) := by rw [HC.out, if_neg (by simp), if_neg heq]; exact rfl
      have hd : ((lsn : Int) == (s.first : Int)) = false := by simp; omega
      have d3 : w2.cell? ⟨g, 3, none⟩ = some (.int .u64 (s.writing : Int)) := Blk.cell HW2.out.l 3
      have d4 : w2.cell? ⟨g, 4, none⟩ = some (.int .u64 (s.life : Int)) := Blk.cell HW2.out.l 4
      have d6 : w2.cell? ⟨g, 6, none⟩ = some (.int .u64 (s.least : Int)) := Blk.cell HW2.out.l 6
      have hbA : Below w2.heap.size w2 (w2.alloc (.cells #[.int .u64 (s.writing : Int), .int .u64 (s.life : Int), .int .u64 (s.first : Int), .int .u64 (s.least : Int)] 72)) := (Below.refl _ _).alloc (Nat.le_refl _) _
      have hM3 : Blk (w2.alloc (.cells #[.int .u64 (s.writing : Int), .int .u64 (s.life : Int), .int .u64 (s.first : Int), .int .u64 (s.least : Int)] 72)) w2.heap.size #[.int .u64 (s.writing : Int), .int .u64 (s.life : Int), .int .u64 (s.first : Int), .int .u64 (s.least : Int)] 72 := Blk.new _ _ _
      have hW3 := HW2.out.below hbA
      have HW3 : Hid (WL _ g f2 { s with safe := x } st2) := hW3
      have HM3 : Hid (Blk _ w2.heap.size #[.int .u64 (s.writing : Int), .int .u64 (s.life : Int), .int .u64 (s.first : Int), .int .u64 (s.least : Int)] 72) := hM3
      have HT3 : Hid (LTurn g f w f2 _) := HT2.out.trans hg (LTurn.of_below hbA)
      have HLA : Hid (Calls _ _ _ _ _) := lifeAt_any hW3 lsn (by omega)
      have HLT : Hid (g < w2.heap.size ∧ ∀ i, f2.has i → i < w2.heap.size) := HW2.out.lt
      have HLS : Hid (w.heap.size ≤ w2.heap.size) := HT2.out.chg.size
      clear hbA hM3 hW3 HW2 HT2 HC heq
      unfold lptr at HLA
      go_wp2_with fail
      refine Calls.mono HLA.out ?_
      rintro e w4 ⟨rfl, hb4⟩
      have HW4 : Hid (WL w4 g f2 { s with safe := x } st2) := HW3.out.below hb4
      have HT4 : Hid (LTurn g f w f2 w4) := HT3.out.trans hg (LTurn.of_below hb4)
      have hM4 : Blk w4 w2.heap.size #[.int .u64 (s.writing : Int), .int .u64 (s.life : Int), .int .u64 (s.first : Int), .int .u64 (s.least : Int)] 72 := HM3.out.of (hb4.block _ HM3.out.lt)
      clear hb4 HLA HW3 HT3 HM3 d3 d4 d5 d6
      have hlife : lifeL { s with safe := x } st2 lsn < 18446744073709551616 := lifeL_lt hlf
      generalize lifeL { s with safe := x } st2 lsn = L at *
      have m0' : w4.cell? ⟨w2.heap.size, 0, none⟩ = some (.int .u64 (s.writing : Int)) := hM4.cell 0
      have m1' : w4.cell? ⟨w2.heap.size, 1, none⟩ = some (.int .u64 (s.life : Int)) := hM4.cell 1
      have m2' : w4.cell? ⟨w2.heap.size, 2, none⟩ = some (.int .u64 (s.first : Int)) := hM4.cell 2
      have m3' : w4.cell? ⟨w2.heap.size, 3, none⟩ = some (.int .u64 (s.least : Int)) := hM4.cell 3
      have g0 := hM4.frozen 0
      have g1 := hM4.frozen 1
      have g2 := hM4.frozen 2
      have g3 := hM4.frozen 3
      have hM5 := (hM4.set 2 (.int .u64 (lsn : Int))).set 3 (.int .u64 (L : Int))
      have hch : Chg (fun j => j = w2.heap.size) w4 ((w4.setCell ⟨w2.heap.size, 2, none⟩ (.int .u64 (lsn : Int))).setCell ⟨w2.heap.size, 3, none⟩ (.int .u64 (L : Int))) := chgG (chgG (Chg.refl _ _) _ _) _ _
      have HW5 : Hid (WL ((w4.setCell ⟨w2.heap.size, 2, none⟩ (.int .u64 (lsn : Int))).setCell ⟨w2.heap.size, 3, none⟩ (.int .u64 (L : Int))) g f2 { s with safe := x } st2) := HW4.out.chg hch (fun e => by have := HLT.out.1; omega) (fun i hi e => by have := HLT.out.2 i hi; omega)
      have HT5 : Hid (LTurn g f w f2 ((w4.setCell ⟨w2.heap.size, 2, none⟩ (.int .u64 (lsn : Int))).setCell ⟨w2.heap.size, 3, none⟩ (.int .u64 (L : Int)))) :=
        ⟨HT4.out.same, HT4.out.new, HT4.out.chg.trans hch (fun i hi e => by have := HT4.out.chg.size; have : i = w2.heap.size := e; have := HLS.out; omega)⟩
      have HLD : Hid (Calls _ _ _ _ _) := lead_any HW5.out ⟨s.writing, s.life, lsn, L⟩ ⟨hwr, hlf, by show lsn < _; omega, hlife⟩ (by omega) (by omega)
      clear hM4 hM5 hch HW4 HT4
      unfold lptr Mst.cs at HLD
      go_wp2_with fail
      refine Calls.mono HLD.out ?_
      rintro e w6 ⟨rfl, f6, hW6, hT6⟩
      have HW6 : Hid (WL w6 g f6 _ _) := hW6
      have HT6 : Hid (LTurn g f w f6 w6) := HT5.out.trans hg hT6
      clear hW6 hT6
      go_wp2_with fail
      go_ret
      rw [HCC.out]
      exact ⟨rfl, f6, HW6.out, HT6.out⟩
  · subst k1
    have HCC : Hid (cutS s st lsn = (8, { s with safe := x }, st2)) := by rw [HC.out, if_pos (by simp)]; exact rfl
    clear HC
    go_wp2_with fail
    go_ret
    rw [HCC.out]
    exact ⟨rfl, f2, HW2.out, HT2.out⟩
end Go.Proofs.Ytepfckckplbjjaa

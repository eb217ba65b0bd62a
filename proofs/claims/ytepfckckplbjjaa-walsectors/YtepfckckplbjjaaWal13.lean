/- The log: an entry laid behind all. Own lemmas, no statement. -/
import Derived.Test.YtepfckckplbjjaaWal12
import Derived.Test.YtepfckckplbjjaaLast
namespace Go.Proofs.Ytepfckckplbjjaa
open Go.ChangeShapes Go.WideShapes Go.ChangeAt Go.RowKit

/-- The disk behind the first k sectors of an entry, and the error. -/
def apTo (s : LSt) (l : List UInt8) (need : Nat) (st : DSt) : Nat → Nat × DSt
  | 0 => (0, st)
  | k + 1 => if (apTo s l need st k).1 ≠ 0 then apTo s l need st k else (apTo s l need st k).2.wr (s.place (s.next + k)) (pcBytes (s.next + k) s.life (decide (k + 1 = need)) (chunkL l k))
theorem apTo_succ {s : LSt} {l : List UInt8} {need k : Nat} {st : DSt} (h : (apTo s l need st k).1 = 0) : apTo s l need st (k + 1) = (apTo s l need st k).2.wr (s.place (s.next + k)) (pcBytes (s.next + k) s.life (decide (k + 1 = need)) (chunkL l k)) := by
  conv => lhs; unfold apTo
  rw [if_neg (by omega)]
theorem apTo_stop {s : LSt} {l : List UInt8} {need k : Nat} {st : DSt} (h : (apTo s l need st k).1 ≠ 0) : ∀ j, apTo s l need st (k + j) = apTo s l need st k
  | 0 => rfl
  | j + 1 => by
    have ih := apTo_stop h j
    show apTo s l need st (k + j + 1) = _
    conv => lhs; unfold apTo
    rw [if_pos (by rw [ih]; exact h), ih]
theorem apTo_len (s : LSt) (l : List UInt8) (need : Nat) (st : DSt) : ∀ k, (apTo s l need st k).2.now.length = st.now.length ∧ (apTo s l need st k).2.steps ≤ st.steps + k ∧ (apTo s l need st k).2.waits.length ≤ st.waits.length + k
  | 0 => ⟨rfl, Nat.le_refl _, Nat.le_refl _⟩
  | k + 1 => by
    obtain ⟨h1, h2, h3⟩ := apTo_len s l need st k
    unfold apTo
    split
    · exact ⟨h1, by omega, by omega⟩
    · obtain ⟨h4, h5⟩ := wr_steps (apTo s l need st k).2 (s.place (s.next + k)) (pcBytes (s.next + k) s.life (decide (k + 1 = need)) (chunkL l k))
      exact ⟨by rw [wr_len, h1], by omega, by omega⟩
theorem apTo_err (s : LSt) (l : List UInt8) (need : Nat) (st : DSt) : ∀ k, (apTo s l need st k).1 = 0 ∨ (apTo s l need st k).1 = 8
  | 0 => .inl rfl
  | k + 1 => by
    unfold apTo
    split
    · exact apTo_err s l need st k
    · exact wr_err _ _ _
theorem Src.chg {S : Nat → Prop} {w w' : World} {ao : Option Addr} {n c : Nat} {l : List UInt8} (h : Src w (.slice ao n c) l) (k : Chg S w w') (hn : ∀ ad, ao = some ad → 0 < l.length → ¬ S ad.block) : Src w' (.slice ao n c) l := by
  obtain ⟨e, h1, h2, h3⟩ := h.at
  subst e
  refine ⟨ao, c, rfl, h1, h2, h3.1, fun ad had j u hu => ?_⟩
  exact k.cell (h3.2 ad had j u hu) (by rw [add_block]; exact hn ad had (by have := (List.getElem?_eq_some_iff.1 hu).1; rw [bv_length] at this; omega))
theorem Src.low {w : World} {ao : Option Addr} {n c : Nat} {l : List UInt8} (h : Src w (.slice ao n c) l) {ad : Addr} (ha : ao = some ad) (h0 : 0 < l.length) : ad.block < w.heap.size := by
  obtain ⟨e, h1, h2, h3⟩ := h.at
  have hb : 0 < (bv l).length := by rw [bv_length]; exact h0
  have := World.block_lt_of_cell? w _ (h3.2 ad ha 0 _ (List.getElem?_eq_getElem hb))
  rw [add_block] at this
  exact this
theorem exec_allocPc {ρ : Operand → Value} {o : Oper} {w : World} (ho : o.op = .alloc 83) : (execOp ρ o).run Try.prog w = .ok (.value (.pointer (some ⟨w.heap.size, 0, none⟩))) (w.alloc (.cells pcZ 83)) := by
  unfold execOp
  rw [ho]
  go_simp
  rfl
/-- While an entry is laid: k sectors are. -/
structure ApS (w wr : World) (g : Nat) (f fr : Foot) (s : LSt) (st : DSt) (l : List UInt8) (need k : Nat) (ao : Option Addr) (n c : Nat) : Prop where
  wl : WL wr g fr s (apTo s l need st k).2
  t : LTurn g f w fr wr
  b : Src wr (.slice ao n c) l
  nb : ∀ ad, ao = some ad → 0 < l.length → ¬ fr.has ad.block ∧ ad.block ≠ g ∧ ad.block < w.heap.size
  ok : (apTo s l need st k).1 = 0
theorem ApS.below {w wr wx : World} {g : Nat} {f fr : Foot} {s : LSt} {st : DSt} {l : List UInt8} {need k : Nat} {ao : Option Addr} {n c : Nat} (hg : g < w.heap.size) (h : ApS w wr g f fr s st l need k ao n c) (hb : Below wr.heap.size wr wx) : ApS w wx g f fr s st l need k ao n c :=
  ⟨h.wl.below hb, h.t.trans hg (LTurn.of_below hb), h.b.below hb, h.nb, h.ok⟩

theorem encF_le : ∀ (f k n : Nat), 0 < k → n < 128 ^ k → (encF f n).length ≤ k
  | 0, k, n, _, _ => by simp [encF]
  | f + 1, k, n, hk, hn => by
    by_cases h : n < 128
    · rw [encF_small h]; simp; omega
    · rw [encF_great (by omega)]
      obtain ⟨j, rfl⟩ : ∃ j, k = j + 1 := ⟨k - 1, by omega⟩
      have hj : 0 < j := by
        rcases Nat.eq_zero_or_pos j with rfl | hj
        · simp at hn; omega
        · exact hj
      have := encF_le f j (n / 128) hj (Nat.div_lt_of_lt_mul (by rw [Nat.pow_succ] at hn; omega))
      simp only [List.length_cons]
      omega
theorem pcBytes_512 {n life : Nat} {last : Bool} {t : List UInt8} (hl : life ≤ 1099511627776) (ht : t.length ≤ 480) : (pcBytes n life last t).length ≤ 512 := by
  unfold pcBytes
  simp only [join_length, List.length_nil]
  have h1 : (enc (n + 1)).length ≤ 10 := enc_length _
  have h2 : (enc life).length ≤ 6 := encF_le 10 6 life (by omega) (by omega)
  have h3 : (enc (if last then 1 else 0)).length ≤ 1 := encF_le 10 1 _ (by omega) (by split <;> omega)
  have h4 : (enc t.length).length ≤ 2 := encF_le 10 2 t.length (by omega) (by omega)
  omega

/-- What laying an entry comes to: the error, the disk. -/
def AppP (w : World) (g : Nat) (f : Foot) (s : LSt) (need : Nat) (r : Nat × DSt) (e : Ending) (w' : World) : Prop := ∃ f', e = .returned (.tuple #[.int .u64 ((if r.1 = 0 then s.next else 0 : Nat) : Int), .int .i64 (r.1 : Int)]) ∧
  WL w' g f' { s with next := if r.1 = 0 then s.next + need else s.next } r.2 ∧ LTurn g f w f' w'

theorem append_arg (g : Nat) (ao : Option Addr) (n c : Nat) (w : World) (hn : 16384 < n) : Calls Try.prog 18 #[lptr g, .slice ao n c] w fun e w' => e = .returned (.tuple #[.int .u64 0, .int .i64 1]) ∧ w' = w := by
  unfold lptr at *
  go_enter Try.func18, Try.ntmps18
  go_wp2_with fail
  go_ret2
  exact ⟨rfl, rfl⟩
theorem append_nil (ao : Option Addr) (n c : Nat) (w : World) : Calls Try.prog 18 #[.pointer none, .slice ao n c] w fun e w' => e = .returned (.tuple #[.int .u64 0, .int .i64 1]) ∧ w' = w := by
  go_enter Try.func18, Try.ntmps18
  go_wp2_with fail
  go_ret2
  exact ⟨rfl, rfl⟩
set_option maxRecDepth 10000 in
set_option maxHeartbeats 4000000 in
theorem append_full {w : World} {g : Nat} {f : Foot} {s : LSt} {st : DSt} (h : WL w g f s st) (ao : Option Addr) (n c : Nat) (hn : n ≤ 16384) (h1 : s.first ≤ s.next) (h2 : s.next ≤ s.first + s.room) (hr : s.room - (s.next - s.first) < needN n) :
    Calls Try.prog 18 #[lptr g, .slice ao n c] w fun e w' => e = .returned (.tuple #[.int .u64 0, .int .i64 10]) ∧ Below w.heap.size w w' := by
  have c7 : w.drew.cell? ⟨g, 7, none⟩ = some (.int .u64 (s.next : Int)) := Blk.cell h.l 7
  have HN : Hid (∀ W, Calls Try.prog 13 #[.int .i64 (n : Int)] W fun e w' => e = .returned (.int .i64 (needN n : Int)) ∧ w' = W) := fun W => Need_any n (by omega) W
  have HF : Hid (∀ W, Below w.heap.size w W → Calls Try.prog 26 #[lptr g] W fun e w' => e = .returned (.int .i64 ((s.room - (s.next - s.first) : Nat) : Int)) ∧ w' = W) := fun W hb => free_any (h.below hb).l h1 h2 (by have := h.bounds; omega)
  have HB : Hid (Below w.heap.size w w.drew) := (Below.refl _ _).drew
  clear h h1 h2
  unfold lptr at *
  generalize (s.room - (s.next - s.first)) = F at *
  go_enter Try.func18, Try.ntmps18
  go_wp2_with fail
  have y7 := cellX c7
  haveI nA := cls_ext w.drew
  refine wp_region_ext (by kernel_rfl) ?_
  refine wpAnyH_seg (by kernel_rfl) (fun _ _ _ h => h) [0, 1, 2, 3, 4, 5] 3 _ _ _ (Ext.refl _) (by kernel_rfl) ?_
  simp only [opsAt, List.getElem?_toArray, List.getElem?_cons_zero, List.getElem?_cons_succ, List.cons_append, List.nil_append]
  repeat (go_big_quiet_step (fail))
  refine wpQuiet_nil ?_
  clear y7 nA c7
  refine wpAnyH_callE (i := 6) (fuel := 2) 25 rfl (by kernel_rfl) rfl (Ext.refl _) (by kernel_rfl) (by kernel_rfl) (HN.out _) ?_
  rintro e w1 ⟨rfl, hw1⟩
  refine ⟨_, rfl, by rw [hw1]; exact Ext.refl _, ?_⟩
  rw [hw1]
  clear hw1 w1
  simp only [Act.put, List.setIfInBounds_toArray, List.set_cons_succ, List.set_cons_zero]
  haveI nB := cls_ext w.drew
  refine wpAnyH_seg (by kernel_rfl) (fun _ _ _ h => h) [7, 8] 0 _ _ _ (Ext.refl _) (by kernel_rfl) ?_
  simp only [opsAt, List.getElem?_toArray, List.getElem?_cons_zero, List.getElem?_cons_succ, List.cons_append, List.nil_append]
  repeat (go_big_quiet_step (fail))
  refine wpQuiet_nil ?_
  clear nB
  refine wpAnyH_done (by kernel_rfl) (NoPanic.normal ?_) 0
  go_wp2_with fail
  refine Calls.mono (HF.out _ HB.out) ?_
  rintro e w' ⟨rfl, hw⟩; rw [hw]; clear hw w'
  go_wp2_with fail
  go_ret2
  exact ⟨rfl, HB.out⟩

set_option maxRecDepth 10000 in
set_option maxHeartbeats 4000000 in
theorem append_any {w : World} {g : Nat} {f : Foot} {s : LSt} {st : DSt} (h : WL w g f s st) (ao : Option Addr) (n c : Nat) (l : List UInt8) (hb : Src w (.slice ao n c) l) (hap : ∀ ad, ao = some ad → 0 < l.length → ¬ f.has ad.block ∧ ad.block ≠ g)
    (hn : l.length ≤ 16384) (h1 : s.first ≤ s.next) (h2 : s.next ≤ s.first + s.room) (hr : needN l.length ≤ s.room - (s.next - s.first)) (hnx : s.next < 4611686018427387904 + 1000000) (hlf : s.life ≤ 1099511627776) (hst : st.steps < 4611686018427387000) (hwl : st.waits.length < 1099511627000) :
    Calls Try.prog 18 #[lptr g, .slice ao n c] w (AppP w g f s (needN l.length) (apTo s l (needN l.length) st (needN l.length))) := by
  obtain ⟨hnl, hc1, hc2, hat⟩ := hb.at
  subst hnl
  have hneed : needN l.length ≤ 35 := by unfold needN; split <;> omega
  have hneed0 := needN_pos l.length
  have hlast : l.length ≤ needN l.length * 480 ∧ (needN l.length - 1) * 480 ≤ l.length := by unfold needN; split <;> omega
  have hg : g < w.heap.size := h.lt.1
  have c7 : w.drew.cell? ⟨g, 7, none⟩ = some (.int .u64 (s.next : Int)) := Blk.cell h.l 7
  have HN : Hid (∀ W, Calls Try.prog 13 #[.int .i64 (l.length : Int)] W fun e w' => e = .returned (.int .i64 (needN l.length : Int)) ∧ w' = W) := fun W => Need_any l.length (by omega) W
  have HF : Hid (∀ W, Below w.heap.size w W → Calls Try.prog 26 #[lptr g] W fun e w' => e = .returned (.int .i64 ((s.room - (s.next - s.first) : Nat) : Int)) ∧ w' = W) := fun W hb => free_any (h.below hb).l h1 h2 (by have := h.bounds; omega)
  have HB : Hid (Below w.heap.size w w.drew) := (Below.refl _ _).drew
  have HS0 : Hid (ApS w w.drew g f f s st l (needN l.length) 0 ao l.length c) := (⟨h, LTurn.refl _ _ _, hb, fun ad e h0 => ⟨(hap ad e h0).1, (hap ad e h0).2, hb.low e h0⟩, rfl⟩ : ApS w w g f f s st l (needN l.length) 0 ao l.length c).below hg (Below.refl _ _).drew
  have HBD : Hid (s.room < 65536 ∧ s.from_ < 65536 ∧ 0 < s.room) := ⟨h.bounds.1, h.bounds.2, h.r0⟩
  have HST : Hid (st.steps < 4611686018427387000 ∧ st.waits.length < 1099511627000) := ⟨hst, hwl⟩
  clear h h1 h2 hb hap hat hc1 hc2 hst hwl
  unfold lptr at *
  generalize hnd : needN l.length = need at *
  have hff : need ≤ s.room - (s.next - s.first) := hr
  clear hr
  generalize (s.room - (s.next - s.first)) = F at *
  go_enter Try.func18, Try.ntmps18
  go_wp2_with fail
  have y7 := cellX c7
  haveI nA := cls_ext w.drew
  refine wp_region_ext (by kernel_rfl) ?_
  refine wpAnyH_seg (by kernel_rfl) (fun _ _ _ h => h) [0, 1, 2, 3, 4, 5] 3 _ _ _ (Ext.refl _) (by kernel_rfl) ?_
  simp only [opsAt, List.getElem?_toArray, List.getElem?_cons_zero, List.getElem?_cons_succ, List.cons_append, List.nil_append]
  repeat (go_big_quiet_step (fail))
  refine wpQuiet_nil ?_
  clear y7 nA c7
  refine wpAnyH_callE (i := 6) (fuel := 2) 25 rfl (by kernel_rfl) rfl (Ext.refl _) (by kernel_rfl) (by kernel_rfl) (HN.out _) ?_
  rintro e w1 ⟨rfl, hw1⟩
  refine ⟨_, rfl, by rw [hw1]; exact Ext.refl _, ?_⟩
  rw [hw1]
  clear hw1 w1
  simp only [Act.put, List.setIfInBounds_toArray, List.set_cons_succ, List.set_cons_zero]
  haveI nB := cls_ext w.drew
  refine wpAnyH_seg (by kernel_rfl) (fun _ _ _ h => h) [7, 8] 0 _ _ _ (Ext.refl _) (by kernel_rfl) ?_
  simp only [opsAt, List.getElem?_toArray, List.getElem?_cons_zero, List.getElem?_cons_succ, List.cons_append, List.nil_append]
  repeat (go_big_quiet_step (fail))
  refine wpQuiet_nil ?_
  clear nB
  refine wpAnyH_done (by kernel_rfl) (NoPanic.normal ?_) 0
  go_wp2_with fail
  refine Calls.mono (HF.out _ HB.out) ?_
  rintro e w' ⟨rfl, hw⟩; rw [hw]; clear hw w'
  go_wp2_with fail
  go_loopw [31] (fun v wr => ∃ (k : Nat) (fr : Foot), v = .int .i64 (k : Int) ∧ k ≤ need ∧ ApS w wr g f fr s st l need k ao l.length c) (fun v _ => need - (intOf v).toNat)
  case atStart => exact ⟨0, f, rfl, by omega, HS0.out⟩
  case round =>
    clear HS0 HB HF HN
    obtain ⟨k, fr, rfl, hk, hS⟩ := hrel
    have HS : Hid (ApS w wr g f fr s st l need k ao l.length c) := hS
    clear hS
    by_cases hk2 : k < need
    · have hlk : ((k : Int) == (need : Int) - 1) = decide (k + 1 = need) := by
        rw [Bool.eq_iff_iff]
        simp
        omega
      have c4 : wr.drew.cell? ⟨g, 4, none⟩ = some (.int .u64 (s.life : Int)) := Blk.cell HS.out.wl.l 4
      have HCH : Hid (∀ W, Ext wr.drew W → Calls Try.prog 42 #[.slice ao l.length c, .int .i64 (k : Int)] W fun e w' => e = .returned (.string ⟨(chunkL l k).toArray⟩) ∧ w' = W) := fun W hW => chunk_any ao l.length c l k W ((HS.out.b.below (Below.refl _ _).drew).below hW) (by have := Nat.mul_le_mul_right 480 (show k ≤ need - 1 by omega); omega) (by omega)
      go_wp2_with fail
      have y4 := cellX c4
      haveI nA := cls_ext wr.drew
      refine wp_region_last (Ext wr.drew) 15 (by kernel_rfl) (by kernel_rfl) ?_
      simp only [List.pop_toArray, List.dropLast_cons_cons, List.dropLast_singleton]
      refine wpAnyH_seg (by kernel_rfl) (fun _ _ _ h => h) [0, 1, 2, 3, 4, 5, 6, 7, 8, 9, 10, 11] 3 _ _ _ (Ext.refl _) (by kernel_rfl) ?_
      simp only [opsAt, List.getElem?_toArray, List.getElem?_cons_zero, List.getElem?_cons_succ, List.cons_append, List.nil_append]
      repeat (go_big_quiet_step (fail))
      refine wpQuiet_nil ?_
      clear y4 nA c4
      have hz0 : Below wr.heap.size wr (wr.drew.alloc (.cells pcZ 83)) := (Below.refl _ _).drew.alloc (Nat.le_refl _) _
      have hz1 : Blk (wr.drew.alloc (.cells pcZ 83)) wr.heap.size pcZ 83 := Blk.new wr.drew _ _
      have hz2 : Blk (((((wr.drew.alloc (.cells pcZ 83)).setCell ⟨wr.heap.size, 0, none⟩ (.int .u64 ((s.next : Int) + (k : Int)))).setCell ⟨wr.heap.size, 1, none⟩ (.int .u64 (s.life : Int))).setCell ⟨wr.heap.size, 2, none⟩ (.bool (decide (k + 1 = need)))).setCell ⟨wr.heap.size, 3, none⟩ (.string ⟨(chunkL l k).toArray⟩)) wr.heap.size #[.int .u64 ((s.next : Int) + (k : Int)), .int .u64 (s.life : Int), .bool (decide (k + 1 = need)), .string ⟨(chunkL l k).toArray⟩] 83 :=
        (((hz1.set 0 (.int .u64 ((s.next : Int) + (k : Int)))).set 1 (.int .u64 (s.life : Int))).set 2 (.bool (decide (k + 1 = need)))).set 3 (.string ⟨(chunkL l k).toArray⟩)
      have hz3 : Below wr.heap.size wr (((((wr.drew.alloc (.cells pcZ 83)).setCell ⟨wr.heap.size, 0, none⟩ (.int .u64 ((s.next : Int) + (k : Int)))).setCell ⟨wr.heap.size, 1, none⟩ (.int .u64 (s.life : Int))).setCell ⟨wr.heap.size, 2, none⟩ (.bool (decide (k + 1 = need)))).setCell ⟨wr.heap.size, 3, none⟩ (.string ⟨(chunkL l k).toArray⟩)) :=
        (((hz0.setCell (Nat.le_refl _) _).setCell (Nat.le_refl _) _).setCell (Nat.le_refl _) _).setCell (Nat.le_refl _) _
      have HZ1 : Hid (Blk (wr.drew.alloc (.cells pcZ 83)) wr.heap.size pcZ 83) := hz1
      have HZ2 : Hid (Blk _ wr.heap.size #[.int .u64 ((s.next : Int) + (k : Int)), .int .u64 (s.life : Int), .bool (decide (k + 1 = need)), .string ⟨(chunkL l k).toArray⟩] 83) := hz2
      have HZ3 : Hid (ApS w _ g f fr s st l need k ao l.length c) := HS.out.below hg hz3
      have HZL : Hid (wr.heap.size < wr.heap.size + 1 ∧ g < wr.heap.size ∧ ¬ fr.has wr.heap.size) := ⟨by omega, HS.out.wl.lt.1, fun e => by have := HS.out.wl.lt.2 _ e; omega⟩
      clear hz0 hz1 hz2 hz3
      have HE1 : Hid (Ext wr.drew (wr.drew.alloc (.cells pcZ 83))) := (Below.refl _ _).alloc (Nat.le_refl _) _
      refine wpAnyH_all (rs := [12, 14]) (fuel := 2) (by kernel_rfl) (by simp) fun j hj => ?_
      rcases (show j = 12 ∨ j = 14 by simpa using hj) with rfl | rfl
      · refine wpOp_enter 50 rfl (by kernel_rfl) rfl (f := 42) (args := #[.slice ao l.length c, .int .i64 (k : Int)]) (by kernel_rfl) (HCH.out _ (Ext.refl _)) ?_
        rintro e w1 ⟨rfl, hw1⟩
        refine ⟨_, rfl, by rw [hw1]; exact Ext.refl _, ?_⟩
        rw [hw1]
        clear hw1 w1
        simp only [Act.put, List.setIfInBounds_toArray, List.set_cons_succ, List.set_cons_zero]
        haveI nA := cls_ext wr.drew
        refine wpAnyH_seg (by kernel_rfl) (fun _ _ _ h => h) [13] 1 _ _ _ (Ext.refl _) (by kernel_rfl) ?_
        simp only [opsAt, List.getElem?_toArray, List.getElem?_cons_zero, List.getElem?_cons_succ, List.cons_append, List.nil_append]
        repeat (go_big_quiet_step (fail))
        refine wpQuiet_nil ?_
        clear nA
        refine wpAnyH_all (rs := [14]) (fuel := 0) (by kernel_rfl) (by simp) fun j hj => ?_
        obtain rfl : j = 14 := by simpa using hj
        refine wpOp_value 10 rfl (by kernel_rfl) rfl (exec_allocPc rfl) ?_
        refine ⟨HE1.out, ?_⟩
        simp only [Act.put, List.setIfInBounds_toArray, List.set_cons_succ, List.set_cons_zero]
        refine wpAnyH_done (by kernel_rfl) (exQ_normal ?_) 0
        refine wpOp_storeN rfl (by kernel_rfl) 83 _ _ rfl rfl wr.heap.size 0 #[.int .u64 ((s.next : Int) + (k : Int)), .int .u64 (s.life : Int), .bool (decide (k + 1 = need)), .string ⟨(chunkL l k).toArray⟩] rfl rfl (thereN 4 HZ1.out (by simp [pcZ])) (by kernel_rfl) (by simp [Value.oneCell']) ?_
        simp only [World.setCells]
        generalize ((((wr.drew.alloc (.cells pcZ 83)).setCell ⟨wr.heap.size, 0, none⟩ (.int .u64 ((s.next : Int) + (k : Int)))).setCell ⟨wr.heap.size, 1, none⟩ (.int .u64 (s.life : Int))).setCell ⟨wr.heap.size, 2, none⟩ (.bool (decide (k + 1 = need)))).setCell ⟨wr.heap.size, 3, none⟩ (.string ⟨(chunkL l k).toArray⟩) = wb at *
        rw [show wr.drew.heap.size = wr.heap.size from rfl]
        have hWd : ApS w wb.drew g f fr s st l need k ao l.length c := HZ3.out.below hg (Below.refl _ _).drew
        have HWd : Hid (ApS w wb.drew g f fr s st l need k ao l.length c) := hWd
        have hPd : Blk wb.drew wr.heap.size #[.int .u64 ((s.next : Int) + (k : Int)), .int .u64 (s.life : Int), .bool (decide (k + 1 = need)), .string ⟨(chunkL l k).toArray⟩] 83 := HZ2.out
        have c0 := cellC (S := fr.has) (Blk.cell hWd.wl.l 0 : _ = some (.pointer (some ⟨fr.g, 0, none⟩))) hWd.wl.ap
        have b0 := cellC (S := fr.has) (hPd.cell 0 : _ = some (.int .u64 ((s.next : Int) + (k : Int)))) HZL.out.2.2
        have b1 := cellC (S := fr.has) (hPd.cell 1 : _ = some (.int .u64 (s.life : Int))) HZL.out.2.2
        have b2 := cellC (S := fr.has) (hPd.cell 2 : _ = some (.bool (decide (k + 1 = need)))) HZL.out.2.2
        have b3 := cellC (S := fr.has) (hPd.cell 3 : _ = some (.string ⟨(chunkL l k).toArray⟩)) HZL.out.2.2
        have HPL : Hid (Calls _ _ _ _ _) := place_any hWd.wl.l (s.next + k) HBD.out.2.2 (by have := HBD.out.1; omega) (by have := HBD.out.2.1; omega) (by omega)
        have hck : (chunkL l k).length ≤ 480 := by unfold chunkL; rw [List.length_take]; omega
        have HPB : Hid (Calls _ _ _ _ _) := pieceBytes_any (s.next + k) s.life (decide (k + 1 = need)) (chunkL l k) wb.drew.drew (by omega) (by omega) (by omega)
        clear hWd hPd HZ2 HZ3 HS HCH HZ1 HE1 hj
        haveI nA := cls_chg fr.has wb.drew
        unfold lptr at HPL
        go_wp2_with fail
        refine wp_region_seg (Chg fr.has wb.drew) (by kernel_rfl) ?_
        refine wpAnyH_seg (by kernel_rfl) (fun _ _ _ h => h) [0, 1, 2, 3, 4, 5, 7] 4 _ _ _ (Chg.refl _ _) (by kernel_rfl) ?_
        simp only [opsAt, List.getElem?_toArray, List.getElem?_cons_zero, List.getElem?_cons_succ, List.cons_append, List.nil_append]
        repeat (go_big_quiet_step (fail))
        refine wpQuiet_nil ?_
        clear c0 b0 b1 b2 b3 nA
        refine wpAnyH_all (rs := [6]) (fuel := 3) (by kernel_rfl) (by simp) fun j hj => ?_
        obtain rfl : j = 6 := by simpa using hj
        refine wpOp_enter 58 rfl (by kernel_rfl) rfl (f := 43) (args := #[.pointer (some ⟨g, 0, none⟩), .int .u64 ((s.next + k : Nat) : Int)]) (by kernel_rfl) HPL.out ?_
        rintro e w1 ⟨rfl, hw1⟩
        refine ⟨_, rfl, by rw [hw1]; exact (Chg.refl _ _).drew, ?_⟩
        rw [hw1]
        clear hw1 w1 hj
        simp only [Act.put, List.setIfInBounds_toArray, List.set_cons_succ, List.set_cons_zero]
        refine wpAnyH_all (rs := [8]) (fuel := 2) (by kernel_rfl) (by simp) fun j hj => ?_
        obtain rfl : j = 8 := by simpa using hj
        refine wpOp_enter 60 rfl (by kernel_rfl) rfl (f := 44) (args := #[pcV (s.next + k) s.life (decide (k + 1 = need)) (chunkL l k)]) (by kernel_rfl) HPB.out ?_
        rintro e w2 ⟨g2, k2, rfl, ho2, hb2⟩
        have hb2' : Below wb.drew.heap.size wb.drew w2 := (Below.refl _ _).drew.trans hb2
        have HW2 : Hid (ApS w w2 g f fr s st l need k ao l.length c) := HWd.out.below hg hb2'
        have hpl := HW2.out.wl.place_lt (s.next + k)
        obtain ⟨k1, k2', k3⟩ := apTo_len s l need st k
        have HWR : Hid (Calls _ _ _ _ _) := write_gen fr (apTo s l need st k).2 (s.place (s.next + k)) _ _ _ _ w2 HW2.out.wl.d hpl ho2.src (pcBytes_512 hlf hck) (by have := HST.out.1; omega) (by have := HST.out.2; omega)
        have hS2 : Chg fr.has wb.drew w2 := Chg.of_below hb2' (fun _ h e => by omega)
        have HS2 : Hid (Chg fr.has wb.drew w2) := hS2
        refine ⟨_, rfl, hS2, ?_⟩
        clear hb2 hb2' ho2 hS2 HPB HPL hpl hj HWd
        simp only [Act.put, List.setIfInBounds_toArray, List.set_cons_succ, List.set_cons_zero]
        refine wpAnyH_all (rs := [9]) (fuel := 1) (by kernel_rfl) (by simp) fun j hj => ?_
        obtain rfl : j = 9 := by simpa using hj
        refine wpOp_enter 61 rfl (by kernel_rfl) rfl (f := 35) (args := #[dptr fr.g, .int .i64 ((s.place (s.next + k) : Nat) : Int), .slice (some ⟨g2, 0, none⟩) (pcBytes (s.next + k) s.life (decide (k + 1 = need)) (chunkL l k)).length k2]) (by kernel_rfl) HWR.out ?_
        rintro e w3 ⟨rfl, f3, hD3, hT3⟩
        have hS3 := HS2.out.trans hT3.chg (fun _ _ e => e)
        refine ⟨_, rfl, hS3, ?_⟩
        have HR3 : Hid (WL w3 g f3 s ((apTo s l need st k).2.wr (s.place (s.next + k)) (pcBytes (s.next + k) s.life (decide (k + 1 = need)) (chunkL l k))).2) := HW2.out.wl.turn hT3 hD3 (wr_len _ _ _)
        have HT3 : Hid (LTurn g f w f3 w3) := HW2.out.t.trans hg (LTurn.of hT3)
        have HB3 : Hid (Src w3 (.slice ao l.length c) l) := HW2.out.b.chg hT3.chg (fun ad e h0 => (HW2.out.nb ad e h0).1)
        have HN3 : Hid (∀ ad, ao = some ad → 0 < l.length → ¬ f3.has ad.block ∧ ad.block ≠ g ∧ ad.block < w.heap.size) := fun ad e h0 => ⟨hT3.not (Nat.lt_of_lt_of_le (HW2.out.nb ad e h0).2.2 HW2.out.t.chg.size) (HW2.out.nb ad e h0).1, (HW2.out.nb ad e h0).2⟩
        have HAP : Hid (apTo s l need st (k + 1) = (apTo s l need st k).2.wr (s.place (s.next + k)) (pcBytes (s.next + k) s.life (decide (k + 1 = need)) (chunkL l k))) := apTo_succ HW2.out.ok
        have herr := wr_err (apTo s l need st k).2 (s.place (s.next + k)) (pcBytes (s.next + k) s.life (decide (k + 1 = need)) (chunkL l k))
        clear HWR HS2 hD3 hT3 HW2 hj k1 k2' k3
        simp only [Act.put, List.setIfInBounds_toArray, List.set_cons_succ, List.set_cons_zero]
        haveI nB := cls_chg fr.has wb.drew
        refine wpAnyH_seg (by kernel_rfl) (fun _ _ _ h => h) [10] 0 _ _ _ hS3 (by kernel_rfl) ?_
        simp only [opsAt, List.getElem?_toArray, List.getElem?_cons_zero, List.getElem?_cons_succ, List.cons_append, List.nil_append]
        repeat (go_big_quiet_step (fail))
        refine wpQuiet_nil ?_
        clear nB hS3
        refine wpAnyH_done (by kernel_rfl) (NoPanic.normal ?_) 0
        generalize hwr : (apTo s l need st k).2.wr (s.place (s.next + k)) (pcBytes (s.next + k) s.life (decide (k + 1 = need)) (chunkL l k)) = R at *
        obtain ⟨cd, st3⟩ := R
        rcases herr with h0 | h0
        · simp only at h0
          subst h0
          simp only at HR3 ⊢
          have HS4 : Hid (ApS w w3 g f f3 s st l need (k + 1) ao l.length c) := ⟨by rw [HAP.out]; exact HR3.out, HT3.out, HB3.out, HN3.out, by rw [HAP.out]⟩
          clear hwr HAP HR3 HT3 HB3 HN3
          go_wp2_with fail
          go_roundw
          case rel => exact ⟨k + 1, f3, by go_num, by omega, HS4.out⟩
          case measure => simp [intOf]; omega
        · simp only at h0
          subst h0
          simp only at HR3 ⊢
          have HAN : Hid (apTo s l need st need = (8, st3)) := by
            have := apTo_stop (s := s) (l := l) (need := need) (st := st) (k := k + 1) (by rw [HAP.out]; simp) (need - (k + 1))
            rw [show k + 1 + (need - (k + 1)) = need by omega, HAP.out] at this
            exact this
          clear hwr HAP
          go_wp2_with fail
          go_ret2
          rw [HAN.out]
          exact ⟨f3, rfl, HR3.out, HT3.out⟩
      · refine wpOp_value 10 rfl (by kernel_rfl) rfl (exec_allocPc rfl) ?_
        refine ⟨HE1.out, ?_⟩
        simp only [Act.put, List.setIfInBounds_toArray, List.set_cons_succ, List.set_cons_zero]
        refine wpAnyH_all (rs := [12]) (fuel := 1) (by kernel_rfl) (by simp) fun j hj => ?_
        obtain rfl : j = 12 := by simpa using hj
        refine wpOp_enter 50 rfl (by kernel_rfl) rfl (f := 42) (args := #[.slice ao l.length c, .int .i64 (k : Int)]) (by kernel_rfl) (HCH.out _ HE1.out) ?_
        rintro e w1 ⟨rfl, hw1⟩
        refine ⟨_, rfl, by rw [hw1]; exact HE1.out, ?_⟩
        rw [hw1]
        clear hw1 w1
        simp only [Act.put, List.setIfInBounds_toArray, List.set_cons_succ, List.set_cons_zero]
        haveI nA := cls_ext wr.drew
        refine wpAnyH_seg (by kernel_rfl) (fun _ _ _ h => h) [13] 0 _ _ _ HE1.out (by kernel_rfl) ?_
        simp only [opsAt, List.getElem?_toArray, List.getElem?_cons_zero, List.getElem?_cons_succ, List.cons_append, List.nil_append]
        repeat (go_big_quiet_step (fail))
        refine wpQuiet_nil ?_
        clear nA
        refine wpAnyH_done (by kernel_rfl) (exQ_normal ?_) 0
        refine wpOp_storeN rfl (by kernel_rfl) 83 _ _ rfl rfl wr.heap.size 0 #[.int .u64 ((s.next : Int) + (k : Int)), .int .u64 (s.life : Int), .bool (decide (k + 1 = need)), .string ⟨(chunkL l k).toArray⟩] rfl rfl (thereN 4 HZ1.out (by simp [pcZ])) (by kernel_rfl) (by simp [Value.oneCell']) ?_
        simp only [World.setCells]
        generalize ((((wr.drew.alloc (.cells pcZ 83)).setCell ⟨wr.heap.size, 0, none⟩ (.int .u64 ((s.next : Int) + (k : Int)))).setCell ⟨wr.heap.size, 1, none⟩ (.int .u64 (s.life : Int))).setCell ⟨wr.heap.size, 2, none⟩ (.bool (decide (k + 1 = need)))).setCell ⟨wr.heap.size, 3, none⟩ (.string ⟨(chunkL l k).toArray⟩) = wb at *
        rw [show wr.drew.heap.size = wr.heap.size from rfl]
        have hWd : ApS w wb.drew g f fr s st l need k ao l.length c := HZ3.out.below hg (Below.refl _ _).drew
        have HWd : Hid (ApS w wb.drew g f fr s st l need k ao l.length c) := hWd
        have hPd : Blk wb.drew wr.heap.size #[.int .u64 ((s.next : Int) + (k : Int)), .int .u64 (s.life : Int), .bool (decide (k + 1 = need)), .string ⟨(chunkL l k).toArray⟩] 83 := HZ2.out
        have c0 := cellC (S := fr.has) (Blk.cell hWd.wl.l 0 : _ = some (.pointer (some ⟨fr.g, 0, none⟩))) hWd.wl.ap
        have b0 := cellC (S := fr.has) (hPd.cell 0 : _ = some (.int .u64 ((s.next : Int) + (k : Int)))) HZL.out.2.2
        have b1 := cellC (S := fr.has) (hPd.cell 1 : _ = some (.int .u64 (s.life : Int))) HZL.out.2.2
        have b2 := cellC (S := fr.has) (hPd.cell 2 : _ = some (.bool (decide (k + 1 = need)))) HZL.out.2.2
        have b3 := cellC (S := fr.has) (hPd.cell 3 : _ = some (.string ⟨(chunkL l k).toArray⟩)) HZL.out.2.2
        have HPL : Hid (Calls _ _ _ _ _) := place_any hWd.wl.l (s.next + k) HBD.out.2.2 (by have := HBD.out.1; omega) (by have := HBD.out.2.1; omega) (by omega)
        have hck : (chunkL l k).length ≤ 480 := by unfold chunkL; rw [List.length_take]; omega
        have HPB : Hid (Calls _ _ _ _ _) := pieceBytes_any (s.next + k) s.life (decide (k + 1 = need)) (chunkL l k) wb.drew.drew (by omega) (by omega) (by omega)
        clear hWd hPd HZ2 HZ3 HS HCH HZ1 HE1 hj
        haveI nA := cls_chg fr.has wb.drew
        unfold lptr at HPL
        go_wp2_with fail
        refine wp_region_seg (Chg fr.has wb.drew) (by kernel_rfl) ?_
        refine wpAnyH_seg (by kernel_rfl) (fun _ _ _ h => h) [0, 1, 2, 3, 4, 5, 7] 4 _ _ _ (Chg.refl _ _) (by kernel_rfl) ?_
        simp only [opsAt, List.getElem?_toArray, List.getElem?_cons_zero, List.getElem?_cons_succ, List.cons_append, List.nil_append]
        repeat (go_big_quiet_step (fail))
        refine wpQuiet_nil ?_
        clear c0 b0 b1 b2 b3 nA
        refine wpAnyH_all (rs := [6]) (fuel := 3) (by kernel_rfl) (by simp) fun j hj => ?_
        obtain rfl : j = 6 := by simpa using hj
        refine wpOp_enter 58 rfl (by kernel_rfl) rfl (f := 43) (args := #[.pointer (some ⟨g, 0, none⟩), .int .u64 ((s.next + k : Nat) : Int)]) (by kernel_rfl) HPL.out ?_
        rintro e w1 ⟨rfl, hw1⟩
        refine ⟨_, rfl, by rw [hw1]; exact (Chg.refl _ _).drew, ?_⟩
        rw [hw1]
        clear hw1 w1 hj
        simp only [Act.put, List.setIfInBounds_toArray, List.set_cons_succ, List.set_cons_zero]
        refine wpAnyH_all (rs := [8]) (fuel := 2) (by kernel_rfl) (by simp) fun j hj => ?_
        obtain rfl : j = 8 := by simpa using hj
        refine wpOp_enter 60 rfl (by kernel_rfl) rfl (f := 44) (args := #[pcV (s.next + k) s.life (decide (k + 1 = need)) (chunkL l k)]) (by kernel_rfl) HPB.out ?_
        rintro e w2 ⟨g2, k2, rfl, ho2, hb2⟩
        have hb2' : Below wb.drew.heap.size wb.drew w2 := (Below.refl _ _).drew.trans hb2
        have HW2 : Hid (ApS w w2 g f fr s st l need k ao l.length c) := HWd.out.below hg hb2'
        have hpl := HW2.out.wl.place_lt (s.next + k)
        obtain ⟨k1, k2', k3⟩ := apTo_len s l need st k
        have HWR : Hid (Calls _ _ _ _ _) := write_gen fr (apTo s l need st k).2 (s.place (s.next + k)) _ _ _ _ w2 HW2.out.wl.d hpl ho2.src (pcBytes_512 hlf hck) (by have := HST.out.1; omega) (by have := HST.out.2; omega)
        have hS2 : Chg fr.has wb.drew w2 := Chg.of_below hb2' (fun _ h e => by omega)
        have HS2 : Hid (Chg fr.has wb.drew w2) := hS2
        refine ⟨_, rfl, hS2, ?_⟩
        clear hb2 hb2' ho2 hS2 HPB HPL hpl hj HWd
        simp only [Act.put, List.setIfInBounds_toArray, List.set_cons_succ, List.set_cons_zero]
        refine wpAnyH_all (rs := [9]) (fuel := 1) (by kernel_rfl) (by simp) fun j hj => ?_
        obtain rfl : j = 9 := by simpa using hj
        refine wpOp_enter 61 rfl (by kernel_rfl) rfl (f := 35) (args := #[dptr fr.g, .int .i64 ((s.place (s.next + k) : Nat) : Int), .slice (some ⟨g2, 0, none⟩) (pcBytes (s.next + k) s.life (decide (k + 1 = need)) (chunkL l k)).length k2]) (by kernel_rfl) HWR.out ?_
        rintro e w3 ⟨rfl, f3, hD3, hT3⟩
        have hS3 := HS2.out.trans hT3.chg (fun _ _ e => e)
        refine ⟨_, rfl, hS3, ?_⟩
        have HR3 : Hid (WL w3 g f3 s ((apTo s l need st k).2.wr (s.place (s.next + k)) (pcBytes (s.next + k) s.life (decide (k + 1 = need)) (chunkL l k))).2) := HW2.out.wl.turn hT3 hD3 (wr_len _ _ _)
        have HT3 : Hid (LTurn g f w f3 w3) := HW2.out.t.trans hg (LTurn.of hT3)
        have HB3 : Hid (Src w3 (.slice ao l.length c) l) := HW2.out.b.chg hT3.chg (fun ad e h0 => (HW2.out.nb ad e h0).1)
        have HN3 : Hid (∀ ad, ao = some ad → 0 < l.length → ¬ f3.has ad.block ∧ ad.block ≠ g ∧ ad.block < w.heap.size) := fun ad e h0 => ⟨hT3.not (Nat.lt_of_lt_of_le (HW2.out.nb ad e h0).2.2 HW2.out.t.chg.size) (HW2.out.nb ad e h0).1, (HW2.out.nb ad e h0).2⟩
        have HAP : Hid (apTo s l need st (k + 1) = (apTo s l need st k).2.wr (s.place (s.next + k)) (pcBytes (s.next + k) s.life (decide (k + 1 = need)) (chunkL l k))) := apTo_succ HW2.out.ok
        have herr := wr_err (apTo s l need st k).2 (s.place (s.next + k)) (pcBytes (s.next + k) s.life (decide (k + 1 = need)) (chunkL l k))
        clear HWR HS2 hD3 hT3 HW2 hj k1 k2' k3
        simp only [Act.put, List.setIfInBounds_toArray, List.set_cons_succ, List.set_cons_zero]
        haveI nB := cls_chg fr.has wb.drew
        refine wpAnyH_seg (by kernel_rfl) (fun _ _ _ h => h) [10] 0 _ _ _ hS3 (by kernel_rfl) ?_
        simp only [opsAt, List.getElem?_toArray, List.getElem?_cons_zero, List.getElem?_cons_succ, List.cons_append, List.nil_append]
        repeat (go_big_quiet_step (fail))
        refine wpQuiet_nil ?_
        clear nB hS3
        refine wpAnyH_done (by kernel_rfl) (NoPanic.normal ?_) 0
        generalize hwr : (apTo s l need st k).2.wr (s.place (s.next + k)) (pcBytes (s.next + k) s.life (decide (k + 1 = need)) (chunkL l k)) = R at *
        obtain ⟨cd, st3⟩ := R
        rcases herr with h0 | h0
        · simp only at h0
          subst h0
          simp only at HR3 ⊢
          have HS4 : Hid (ApS w w3 g f f3 s st l need (k + 1) ao l.length c) := ⟨by rw [HAP.out]; exact HR3.out, HT3.out, HB3.out, HN3.out, by rw [HAP.out]⟩
          clear hwr HAP HR3 HT3 HB3 HN3
          go_wp2_with fail
          go_roundw
          case rel => exact ⟨k + 1, f3, by go_num, by omega, HS4.out⟩
          case measure => simp [intOf]; omega
        · simp only at h0
          subst h0
          simp only at HR3 ⊢
          have HAN : Hid (apTo s l need st need = (8, st3)) := by
            have := apTo_stop (s := s) (l := l) (need := need) (st := st) (k := k + 1) (by rw [HAP.out]; simp) (need - (k + 1))
            rw [show k + 1 + (need - (k + 1)) = need by omega, HAP.out] at this
            exact this
          clear hwr HAP
          go_wp2_with fail
          go_ret2
          rw [HAN.out]
          exact ⟨f3, rfl, HR3.out, HT3.out⟩
    · obtain rfl : k = need := by omega
      have hS := HS.out
      have c7 : wr.cell? ⟨g, 7, none⟩ = some (.int .u64 (s.next : Int)) := Blk.cell hS.wl.l 7
      have g7 := Blk.frozen hS.wl.l 7
      have hL5 : LogAt (wr.setCell ⟨g, 7, none⟩ (.int .u64 ((s.next : Int) + (k : Int)))) g fr.g { s with next := s.next + k } := Blk.set hS.wl.l 7 (.int .u64 ((s.next : Int) + (k : Int)))
      have hch : Chg (fun j => j = g) wr (wr.setCell ⟨g, 7, none⟩ (.int .u64 ((s.next : Int) + (k : Int)))) := chgG (Chg.refl _ _) _ _
      have HE : Hid (∃ f', WL (wr.setCell ⟨g, 7, none⟩ (.int .u64 ((s.next : Int) + (k : Int)))) g f' { s with next := s.next + k } (apTo s l k st k).2 ∧ LTurn g f w f' (wr.setCell ⟨g, 7, none⟩ (.int .u64 ((s.next : Int) + (k : Int))))) :=
        ⟨fr, ⟨hL5, hS.wl.d.keep hch (fun i hi e => by subst e; exact hS.wl.ap hi), hS.wl.ap, hS.wl.r0, hS.wl.fit⟩, hS.t.trans hg ⟨rfl, fun _ h => .inl h, hch.mono (fun _ _ e => .inl e)⟩⟩
      have HOK : Hid ((apTo s l k st k).1 = 0) := hS.ok
      clear hS hL5 hch
      go_wp2_with fail
      go_ret2
      obtain ⟨f', h1, h2⟩ := HE.out
      unfold AppP
      rw [HOK.out]
      exact ⟨f', rfl, h1, h2⟩
end Go.Proofs.Ytepfckckplbjjaa

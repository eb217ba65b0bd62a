/- NetRuns: a round that sends, more. Own lemmas, no statement. -/
import Derived.Test.YtcemecclpofhbaaNRun5
import Derived.Deep.CutRange
set_option linter.unusedSimpArgs false
set_option linter.unusedVariables false
namespace Go.Proofs.Ytcemecclpofhbaa
open Go.ChangeShapes Go.WideShapes Go.ChangeAt Go.RowKit

set_option maxRecDepth 100000 in
set_option maxHeartbeats 16000000 in
theorem run_send_bad2 (w : World) (p : Nat) (ad : Addr) (len cap k n : Nat) (hlt1 : k < len) (hlt2 : k < 60) (T : Nat → Value) (v : Value) (ua : Option Addr) (uc : Nat) (ls us : List LetV) (wr : World) (Q : Exit → Act → World → Prop) (o : OpN) (hl63 : len ≤ 9223372036854775807) (hnk : n ≤ k) (hwp : w.heap.size ≤ p) (hop : OpNAt w ad k o) (hra : RunA w p n v ua uc ls us wr) (h0 : o.k = 0) (hb : 64 ≤ o.at_) : Goal w p ad len cap k n ua uc T Q wr := by
  have HK : Hid (o.k = 0) := h0
  clear h0
  have huc := hra.uc
  have hn60 : n ≤ 60 := by omega
  have HWP : Hid (w.heap.size ≤ p) := hwp
  have HOP0 : Hid (OpNAt w ad k o) := hop
  have HOP : Hid (OpNAt wr ad k o) := hop.below hra.below
  have HRA : Hid (RunA w p n v ua uc ls us wr) := hra
  have hd1 : decide ((k : Int) < (len : Int)) = true := decide_eq_true (by omega)
  have hd2 : decide ((k : Int) < 60) = true := decide_eq_true (by omega)
  have e0 : wr.cell? (ad.add (k * 5)) = some (.int .i64 o.k) := HOP.out.c0
  have e1 : wr.cell? ⟨(ad.add (k * 5)).block, (ad.add (k * 5)).off + 1, none⟩ = some (.int .i64 o.at_) := cell_on16 (by omega) HOP.out.c1
  have e2 : wr.cell? ⟨(ad.add (k * 5)).block, (ad.add (k * 5)).off + 2, none⟩ = some (.int .i64 o.i) := cell_on16 (by omega) HOP.out.c2
  have e3 : wr.cell? ⟨(ad.add (k * 5)).block, (ad.add (k * 5)).off + 3, none⟩ = some (.slice o.bo o.bn o.bc) := cell_on16 (by omega) HOP.out.c3
  have e4 : wr.cell? ⟨(ad.add (k * 5)).block, (ad.add (k * 5)).off + 4, none⟩ = some (.int .u8 (o.bt.toNat : Int)) := cell_on16 (by omega) HOP.out.c4
  obtain ⟨w3, hw3⟩ : ∃ w3, w3 = wr.alloc (.cells #[.int .i64 o.k, .int .i64 o.at_, .int .i64 o.i, .slice o.bo o.bn o.bc, .int .u8 (o.bt.toNat : Int)] 30) := ⟨_, rfl⟩
  have HB3 : Hid (Blk w3 wr.heap.size #[.int .i64 o.k, .int .i64 o.at_, .int .i64 o.i, .slice o.bo o.bn o.bc, .int .u8 (o.bt.toNat : Int)] 30) := by rw [hw3]; exact Blk.new _ _ _
  have HE3 : Hid (Below wr.heap.size wr w3) := by rw [hw3]; exact below_allocR _
  have ho63 : o.bn ≤ 9223372036854775807 := by have := HOP.out.src.at; unfold maxLen at this; omega
  clear hop hra hwp
  unfold Goal fr
  conv => arg 2; whnf
  go_upto_region 9 with fail
  rw [← hw3]
  clear hw3 e0 e1 e2 e3 e4 hd1 hd2
  have HR3 : Hid (RunA w p n v ua uc ls us w3) := HRA.out.go HE3.out
  have HS3 : Hid (Src w3 (.slice o.bo o.bn o.bc) o.bl ∧ o.bn = o.bl.length) := ⟨HOP.out.src.below HE3.out, HOP.out.src.at.1⟩
  have HWF : Hid ((Lit.int .i64 o.at_).wf = true ∧ (Lit.int .i64 o.i).wf = true) := ⟨HOP.out.w1, HOP.out.w2⟩
  have HQP : Hid (p < wr.heap.size ∧ (∀ i, FP p v ls i → i < wr.heap.size) ∧ ∀ i, FL (.slice ua n uc) us i → i < wr.heap.size) := ⟨HRA.out.x.net.blk.lt, fun i hi => (HRA.out.x.net.fp_lt hi).2, fun i hi => (HRA.out.x.own.lt hi).2⟩
  clear HRA HOP HE3
  generalize wr.heap.size = q at *
  have c0 : w3.cell? ⟨q, 0, none⟩ = some (.int .i64 o.k) := HB3.out.cell 0
  have c1 : w3.cell? ⟨q, 1, none⟩ = some (.int .i64 o.at_) := HB3.out.cell 1
  have c2 : w3.cell? ⟨q, 2, none⟩ = some (.int .i64 o.i) := HB3.out.cell 2
  have c3 : w3.cell? ⟨q, 3, none⟩ = some (.slice o.bo o.bn o.bc) := HB3.out.cell 3
  have c4 : w3.cell? ⟨q, 4, none⟩ = some (.int .u8 (o.bt.toNat : Int)) := HB3.out.cell 4
  by_cases g3 : 300 < o.bn
  · go_wp2_with fail
    refine ⟨⟨k + 1, n, v, ua, uc, ls, us, ⟨rfl, rfl, rfl, rfl, rfl, rfl, by go_num⟩, by omega, by omega, by omega, HWP.out, HR3.out⟩, ?_⟩
    simp [Rmu, intOf]; omega
  rw [HK.out] at c0
  have ha : decide ((0 : Int) ≤ o.at_) = true := decide_eq_true (by omega)
  have h : decide (o.at_ < (n : Int)) = false := decide_eq_false (by omega)
  have h8 : decide (o.at_ < 0) = false := decide_eq_false (by omega)
  have h9 : decide (63 < o.at_) = true := decide_eq_true (by omega)
  have HBL : Hid (o.bl.length ≤ 300) := by have := HS3.out.2; show _ ≤ _; omega
  have HM0 : Hid (Own (w3.alloc (.cells #[] 5)) w3.heap.size (.slice (some ⟨w3.heap.size, 0, none⟩) 0 0) []) := World.ownsRow_made w3 #[] 0 (Nat.le_refl _) (Nat.zero_le _) rfl
  have HMS : Hid (Src (w3.alloc (.cells #[] 5)) (.slice o.bo o.bn o.bc) o.bl) := HS3.out.1.below (below_allocR _)
  have HSZ : Hid (w3.heap.size ≤ (w3.alloc (.cells #[] 5)).heap.size) := by show _ ≤ _; simp
  have HXA : Hid (Below w3.heap.size w3 (w3.alloc (.cells #[] 5))) := below_allocR _
  have c3a : (w3.alloc (.cells #[] 5)).cell? ⟨q, 3, none⟩ = some (.slice o.bo o.bn o.bc) := (HB3.out.alloc _).cell 3
  go_upto_region 16 with fail
  go_wp2_with (at_builtin; refine wpList_join (w3.alloc (.cells #[] 5)) rfl _ _ rfl w3.heap.size _ [] o.bl HM0.out rfl _ HMS.out rfl (by have := HBL.out; simp; omega) HSZ.out ?_)
  intro v4 w4 ho hg _
  have ho2 : Own w4 w3.heap.size v4 o.bl := ho
  obtain ⟨a4, k4, rfl⟩ := ho2.any
  rw [← HS3.out.2] at ho2 ⊢
  have HM4 : Hid (Own w4 w3.heap.size (.slice a4 o.bn k4) o.bl) := ho2
  have HE4 : Hid (Below w3.heap.size w3 w4) := HXA.out.grown hg HSZ.out (fun k hk => by cases hk; exact Nat.le_refl _)
  clear ho ho2 hg HM0 HMS HSZ HXA c3a
  have HR4 : Hid (RunA w p n v ua uc ls us w4) := HR3.out.go HE4.out
  have HB4 : Hid (Blk w4 q #[.int .i64 o.k, .int .i64 o.at_, .int .i64 o.i, .slice o.bo o.bn o.bc, .int .u8 (o.bt.toNat : Int)] 30) := HB3.out.of (HE4.out.block _ HB3.out.lt)
  have HMF : Hid (∀ i, (Value.slice a4 o.bn k4).ownBlock = some i → w3.heap.size ≤ i ∧ i < w4.heap.size) := fun i hi => World.ownsRow.lt HM4.out i hi
  have HQ3 : Hid (q < w3.heap.size) := HB3.out.lt
  clear c0 c1 c2 c3 c4
  have c1 : w4.cell? ⟨q, 1, none⟩ = some (.int .i64 o.at_) := HB4.out.cell 1
  have HX : Hid (Calls _ _ _ _ _) := send_any p p v ls o.at_ a4 o.bn k4 o.bl w4 HR4.out.x.net HM4.out.src (by have := HBL.out; omega)
  go_wp2_with fail
  refine HX.out.mono ?_
  rintro e w5 hs
  have hr : e = .returned (.int .i64 1) ∧ w5 = w4 := by
    rcases hs with ⟨_, h⟩ | ⟨h, _⟩ | ⟨h, _⟩
    · exact h
    · exact absurd (.inr (.inl hb)) h
    · exact absurd (.inr (.inl hb)) h
  obtain ⟨rfl, hw⟩ := hr
  rw [hw]
  clear hw hs w5 HX
  have HM : Hid (Own w4 w3.heap.size (.slice a4 o.bn k4) o.bl) := HM4.out
  clear c1
  go_wp2_with fail
  go_loopw [85] (fun i wr => ∃ (j : Nat) (l' : List UInt8), i = .int .i64 j ∧ j ≤ o.bn ∧ l'.length = o.bn ∧ Own wr w3.heap.size (.slice a4 o.bn k4) l' ∧ Chg (fun i => (Value.slice a4 o.bn k4).ownBlock = some i) w4 wr) (fun i _ => o.bn - (intOf i).toNat)
  case atStart => exact ⟨0, o.bl, rfl, Nat.zero_le _, HS3.out.2.symm, HM.out, Chg.refl _ _⟩
  case round =>
    obtain ⟨j, l', rfl, hjl, hll, hown, hchg⟩ := hrel
    by_cases hlt : j < o.bn
    · obtain ⟨g4, cap4, cur4, hv4, hbk4, hic4, hc41, hc42, ⟨ob, hob, kb⟩, hset⟩ := own_set2 hown (i := j) (by omega)
      have hsl : Chg (fun i => (Value.slice a4 o.bn k4).ownBlock = some i) w4 (wr.setCell ⟨g4, j, none⟩ (.int .u8 ((ob ^^^ 255).toNat : Int))) := hchg.setCell ⟨g4, j, none⟩ (fun _ => by rw [hv4]; rfl) _
      have HSL : Hid (Chg _ w4 _) := hsl
      have HSET : Hid (Own (wr.setCell ⟨g4, j, none⟩ (.int .u8 ((ob ^^^ 255).toNat : Int))) w3.heap.size (.slice a4 o.bn k4) (l'.set j (ob ^^^ 255))) := hset _
      have HLL : Hid (l'.length = o.bn) := hll
      have hfz := hbk4.frozen j
      have hx8 : bits .xor .u8 (ob.toNat : Int) 255 = ((ob ^^^ 255).toNat : Int) := xor_u8 ob 255
      simp only [Value.slice.injEq] at hv4
      obtain ⟨rfl, _, _⟩ := hv4
      have hjn : (j : Int) < (o.bn : Int) := by omega
      clear hown hchg hll hsl hset hob hbk4 hic4 hc41 hc42
      go_wp2
      go_roundw
      case rel => exact ⟨j + 1, _, by go_num, by omega, by rw [List.length_set]; exact HLL.out, HSET.out, HSL.out⟩
      case measure => simp [intOf]; omega
    · have HCL : Hid (Chg (fun i => (Value.slice a4 o.bn k4).ownBlock = some i) w4 wr) := hchg
      clear hown hchg hll
      have HR6 : Hid (RunA w p n v ua uc ls us wr) := HR4.out.off HWP.out HCL.out (fun i hi => by
        have h1 := HMF.out i hi
        have h3 := HQ3.out
        refine ⟨by have := HWP.out; have := HQP.out.1; omega, fun h => ?_, fun h => ?_⟩
        · have := HQP.out.2.1 i h; omega
        · have := HQP.out.2.2 i h; omega)
      clear HCL HR3 HR4 HB3 HB4 HM4 HM HE4 HMF HS3 HQP
      have HX : Hid (Calls _ _ _ _ _) := len_any p p v ls wr HR6.out.x.net
      rw [HR6.out.ln] at HX
      go_wp2_with fail
      refine HX.out.mono ?_
      rintro e wz ⟨rfl, hw⟩
      rw [hw]
      clear hw wz HX
      go_wp2_with fail
      refine ⟨⟨k + 1, n, v, ua, uc, ls, us, ⟨rfl, rfl, rfl, rfl, rfl, rfl, by go_num⟩, by omega, by omega, by omega, HWP.out, HR6.out⟩, ?_⟩
      simp [Rmu, intOf]; omega
set_option maxRecDepth 100000 in
set_option maxHeartbeats 16000000 in
theorem run_send_bad3 (w : World) (p : Nat) (ad : Addr) (len cap k n : Nat) (hlt1 : k < len) (hlt2 : k < 60) (T : Nat → Value) (v : Value) (ua : Option Addr) (uc : Nat) (ls us : List LetV) (wr : World) (Q : Exit → Act → World → Prop) (o : OpN) (hl63 : len ≤ 9223372036854775807) (hnk : n ≤ k) (hwp : w.heap.size ≤ p) (hop : OpNAt w ad k o) (hra : RunA w p n v ua uc ls us wr) (h0 : o.k = 0) (hb : 0 ≤ o.at_ ∧ o.at_ < 64) (hb2 : 200 < o.bn) : Goal w p ad len cap k n ua uc T Q wr := by
  have HK : Hid (o.k = 0) := h0
  clear h0
  have huc := hra.uc
  have hn60 : n ≤ 60 := by omega
  have HWP : Hid (w.heap.size ≤ p) := hwp
  have HOP0 : Hid (OpNAt w ad k o) := hop
  have HOP : Hid (OpNAt wr ad k o) := hop.below hra.below
  have HRA : Hid (RunA w p n v ua uc ls us wr) := hra
  have hd1 : decide ((k : Int) < (len : Int)) = true := decide_eq_true (by omega)
  have hd2 : decide ((k : Int) < 60) = true := decide_eq_true (by omega)
  have e0 : wr.cell? (ad.add (k * 5)) = some (.int .i64 o.k) := HOP.out.c0
  have e1 : wr.cell? ⟨(ad.add (k * 5)).block, (ad.add (k * 5)).off + 1, none⟩ = some (.int .i64 o.at_) := cell_on16 (by omega) HOP.out.c1
  have e2 : wr.cell? ⟨(ad.add (k * 5)).block, (ad.add (k * 5)).off + 2, none⟩ = some (.int .i64 o.i) := cell_on16 (by omega) HOP.out.c2
  have e3 : wr.cell? ⟨(ad.add (k * 5)).block, (ad.add (k * 5)).off + 3, none⟩ = some (.slice o.bo o.bn o.bc) := cell_on16 (by omega) HOP.out.c3
  have e4 : wr.cell? ⟨(ad.add (k * 5)).block, (ad.add (k * 5)).off + 4, none⟩ = some (.int .u8 (o.bt.toNat : Int)) := cell_on16 (by omega) HOP.out.c4
  obtain ⟨w3, hw3⟩ : ∃ w3, w3 = wr.alloc (.cells #[.int .i64 o.k, .int .i64 o.at_, .int .i64 o.i, .slice o.bo o.bn o.bc, .int .u8 (o.bt.toNat : Int)] 30) := ⟨_, rfl⟩
  have HB3 : Hid (Blk w3 wr.heap.size #[.int .i64 o.k, .int .i64 o.at_, .int .i64 o.i, .slice o.bo o.bn o.bc, .int .u8 (o.bt.toNat : Int)] 30) := by rw [hw3]; exact Blk.new _ _ _
  have HE3 : Hid (Below wr.heap.size wr w3) := by rw [hw3]; exact below_allocR _
  have ho63 : o.bn ≤ 9223372036854775807 := by have := HOP.out.src.at; unfold maxLen at this; omega
  clear hop hra hwp
  unfold Goal fr
  conv => arg 2; whnf
  go_upto_region 9 with fail
  rw [← hw3]
  clear hw3 e0 e1 e2 e3 e4 hd1 hd2
  have HR3 : Hid (RunA w p n v ua uc ls us w3) := HRA.out.go HE3.out
  have HS3 : Hid (Src w3 (.slice o.bo o.bn o.bc) o.bl ∧ o.bn = o.bl.length) := ⟨HOP.out.src.below HE3.out, HOP.out.src.at.1⟩
  have HWF : Hid ((Lit.int .i64 o.at_).wf = true ∧ (Lit.int .i64 o.i).wf = true) := ⟨HOP.out.w1, HOP.out.w2⟩
  have HQP : Hid (p < wr.heap.size ∧ (∀ i, FP p v ls i → i < wr.heap.size) ∧ ∀ i, FL (.slice ua n uc) us i → i < wr.heap.size) := ⟨HRA.out.x.net.blk.lt, fun i hi => (HRA.out.x.net.fp_lt hi).2, fun i hi => (HRA.out.x.own.lt hi).2⟩
  clear HRA HOP HE3
  generalize wr.heap.size = q at *
  have c0 : w3.cell? ⟨q, 0, none⟩ = some (.int .i64 o.k) := HB3.out.cell 0
  have c1 : w3.cell? ⟨q, 1, none⟩ = some (.int .i64 o.at_) := HB3.out.cell 1
  have c2 : w3.cell? ⟨q, 2, none⟩ = some (.int .i64 o.i) := HB3.out.cell 2
  have c3 : w3.cell? ⟨q, 3, none⟩ = some (.slice o.bo o.bn o.bc) := HB3.out.cell 3
  have c4 : w3.cell? ⟨q, 4, none⟩ = some (.int .u8 (o.bt.toNat : Int)) := HB3.out.cell 4
  by_cases g3 : 300 < o.bn
  · go_wp2_with fail
    refine ⟨⟨k + 1, n, v, ua, uc, ls, us, ⟨rfl, rfl, rfl, rfl, rfl, rfl, by go_num⟩, by omega, by omega, by omega, HWP.out, HR3.out⟩, ?_⟩
    simp [Rmu, intOf]; omega
  rw [HK.out] at c0
  obtain ⟨hba, hbb⟩ := hb
  go_upto_region 10 with fail
  go_cut [7] from 44 to 53 (fun _ wx => wx = w3)
  case first =>
    rcases in3 o.at_ n with h | ⟨ha, h⟩ | ⟨ha, h⟩
    · go_wp2
      go_meet
      case rel => exact rfl
    · go_wp2
      go_meet
      case rel => exact rfl
    · go_wp2
      go_meet
      case rel => exact rfl
  case rest =>
    rw [hcut]
    clear hcut wc
    have h8 : decide (o.at_ < 0) = false := decide_eq_false (by omega)
    have h9 : decide (63 < o.at_) = false := decide_eq_false (by omega)
    have h10 : decide (200 < (o.bn : Int)) = true := decide_eq_true (by omega)
    have HBL : Hid (o.bl.length ≤ 300) := by have := HS3.out.2; show _ ≤ _; omega
    have HM0 : Hid (Own (w3.alloc (.cells #[] 5)) w3.heap.size (.slice (some ⟨w3.heap.size, 0, none⟩) 0 0) []) := World.ownsRow_made w3 #[] 0 (Nat.le_refl _) (Nat.zero_le _) rfl
    have HMS : Hid (Src (w3.alloc (.cells #[] 5)) (.slice o.bo o.bn o.bc) o.bl) := HS3.out.1.below (below_allocR _)
    have HSZ : Hid (w3.heap.size ≤ (w3.alloc (.cells #[] 5)).heap.size) := by show _ ≤ _; simp
    have HXA : Hid (Below w3.heap.size w3 (w3.alloc (.cells #[] 5))) := below_allocR _
    have c3a : (w3.alloc (.cells #[] 5)).cell? ⟨q, 3, none⟩ = some (.slice o.bo o.bn o.bc) := (HB3.out.alloc _).cell 3
    go_upto_region 16 with fail
    go_wp2_with (at_builtin; refine wpList_join (w3.alloc (.cells #[] 5)) rfl _ _ rfl w3.heap.size _ [] o.bl HM0.out rfl _ HMS.out rfl (by have := HBL.out; simp; omega) HSZ.out ?_)
    intro v4 w4 ho hg _
    have ho2 : Own w4 w3.heap.size v4 o.bl := ho
    obtain ⟨a4, k4, rfl⟩ := ho2.any
    rw [← HS3.out.2] at ho2 ⊢
    have HM4 : Hid (Own w4 w3.heap.size (.slice a4 o.bn k4) o.bl) := ho2
    have HE4 : Hid (Below w3.heap.size w3 w4) := HXA.out.grown hg HSZ.out (fun k hk => by cases hk; exact Nat.le_refl _)
    clear ho ho2 hg HM0 HMS HSZ HXA c3a
    have HR4 : Hid (RunA w p n v ua uc ls us w4) := HR3.out.go HE4.out
    have HB4 : Hid (Blk w4 q #[.int .i64 o.k, .int .i64 o.at_, .int .i64 o.i, .slice o.bo o.bn o.bc, .int .u8 (o.bt.toNat : Int)] 30) := HB3.out.of (HE4.out.block _ HB3.out.lt)
    have HMF : Hid (∀ i, (Value.slice a4 o.bn k4).ownBlock = some i → w3.heap.size ≤ i ∧ i < w4.heap.size) := fun i hi => World.ownsRow.lt HM4.out i hi
    have HQ3 : Hid (q < w3.heap.size) := HB3.out.lt
    clear c0 c1 c2 c3 c4
    have c1 : w4.cell? ⟨q, 1, none⟩ = some (.int .i64 o.at_) := HB4.out.cell 1
    have HX : Hid (Calls _ _ _ _ _) := send_any p p v ls o.at_ a4 o.bn k4 o.bl w4 HR4.out.x.net HM4.out.src (by have := HBL.out; omega)
    go_wp2_with fail
    refine HX.out.mono ?_
    rintro e w5 hs
    have hr : e = .returned (.int .i64 1) ∧ w5 = w4 := by
      rcases hs with ⟨_, h⟩ | ⟨h, _⟩ | ⟨h, _⟩
      · exact h
      · exact absurd (.inr (.inr (by have := HS3.out.2; omega))) h
      · exact absurd (.inr (.inr (by have := HS3.out.2; omega))) h
    obtain ⟨rfl, hw⟩ := hr
    rw [hw]
    clear hw hs w5 HX
    have HM : Hid (Own w4 w3.heap.size (.slice a4 o.bn k4) o.bl) := HM4.out
    clear c1
    go_wp2_with fail
    go_loopw [85] (fun i wr => ∃ (j : Nat) (l' : List UInt8), i = .int .i64 j ∧ j ≤ o.bn ∧ l'.length = o.bn ∧ Own wr w3.heap.size (.slice a4 o.bn k4) l' ∧ Chg (fun i => (Value.slice a4 o.bn k4).ownBlock = some i) w4 wr) (fun i _ => o.bn - (intOf i).toNat)
    case atStart => exact ⟨0, o.bl, rfl, Nat.zero_le _, HS3.out.2.symm, HM.out, Chg.refl _ _⟩
    case round =>
      obtain ⟨j, l', rfl, hjl, hll, hown, hchg⟩ := hrel
      by_cases hlt : j < o.bn
      · obtain ⟨g4, cap4, cur4, hv4, hbk4, hic4, hc41, hc42, ⟨ob, hob, kb⟩, hset⟩ := own_set2 hown (i := j) (by omega)
        have hsl : Chg (fun i => (Value.slice a4 o.bn k4).ownBlock = some i) w4 (wr.setCell ⟨g4, j, none⟩ (.int .u8 ((ob ^^^ 255).toNat : Int))) := hchg.setCell ⟨g4, j, none⟩ (fun _ => by rw [hv4]; rfl) _
        have HSL : Hid (Chg _ w4 _) := hsl
        have HSET : Hid (Own (wr.setCell ⟨g4, j, none⟩ (.int .u8 ((ob ^^^ 255).toNat : Int))) w3.heap.size (.slice a4 o.bn k4) (l'.set j (ob ^^^ 255))) := hset _
        have HLL : Hid (l'.length = o.bn) := hll
        have hfz := hbk4.frozen j
        have hx8 : bits .xor .u8 (ob.toNat : Int) 255 = ((ob ^^^ 255).toNat : Int) := xor_u8 ob 255
        simp only [Value.slice.injEq] at hv4
        obtain ⟨rfl, _, _⟩ := hv4
        have hjn : (j : Int) < (o.bn : Int) := by omega
        clear hown hchg hll hsl hset hob hbk4 hic4 hc41 hc42
        go_wp2
        go_roundw
        case rel => exact ⟨j + 1, _, by go_num, by omega, by rw [List.length_set]; exact HLL.out, HSET.out, HSL.out⟩
        case measure => simp [intOf]; omega
      · have HCL : Hid (Chg (fun i => (Value.slice a4 o.bn k4).ownBlock = some i) w4 wr) := hchg
        clear hown hchg hll
        have HR6 : Hid (RunA w p n v ua uc ls us wr) := HR4.out.off HWP.out HCL.out (fun i hi => by
          have h1 := HMF.out i hi
          have h3 := HQ3.out
          refine ⟨by have := HWP.out; have := HQP.out.1; omega, fun h => ?_, fun h => ?_⟩
          · have := HQP.out.2.1 i h; omega
          · have := HQP.out.2.2 i h; omega)
        clear HCL HR3 HR4 HB3 HB4 HM4 HM HE4 HMF HS3 HQP
        have HX : Hid (Calls _ _ _ _ _) := len_any p p v ls wr HR6.out.x.net
        rw [HR6.out.ln] at HX
        go_wp2_with fail
        refine HX.out.mono ?_
        rintro e wz ⟨rfl, hw⟩
        rw [hw]
        clear hw wz HX
        go_wp2_with fail
        refine ⟨⟨k + 1, n, v, ua, uc, ls, us, ⟨rfl, rfl, rfl, rfl, rfl, rfl, by go_num⟩, by omega, by omega, by omega, HWP.out, HR6.out⟩, ?_⟩
        simp [Rmu, intOf]; omega
end Go.Proofs.Ytcemecclpofhbaa

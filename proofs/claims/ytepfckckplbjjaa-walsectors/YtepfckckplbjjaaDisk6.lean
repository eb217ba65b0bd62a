/- The Go text of disk's On. Own lemmas, no statement. -/
import Derived.Test.YtepfckckplbjjaaDisk5
namespace Go.Proofs.Ytepfckckplbjjaa
open Go.ChangeShapes Go.WideShapes Go.ChangeAt Go.RowKit

/-- A slice of bools that can be read. -/
def Bools (w : World) (ao : Option Addr) (n : Nat) (l : List Bool) : Prop :=
  l.length = n ∧ (ao = none → l = []) ∧ ∀ ad, ao = some ad → ∀ j b, l[j]? = some b → w.cell? (ad.add j) = some (.bool b)
theorem Bools.chg {w w' : World} {ao : Option Addr} {n : Nat} {l : List Bool} {S : Nat → Prop} (h : Bools w ao n l) (k : Chg S w w') (hn : ∀ ad, ao = some ad → 0 < n → ¬ S ad.block) : Bools w' ao n l := by
  obtain ⟨h1, h2, h3⟩ := h
  refine ⟨h1, h2, fun ad had j b hb => ?_⟩
  have hblk : (ad.add j).block = ad.block := by unfold Addr.add; split <;> rfl
  exact k.cell (h3 ad had j b hb) (by rw [hblk]; exact hn ad had (by have := (List.getElem?_eq_some_iff.1 hb).1; omega))

theorem Bools.below {w w' : World} {ao : Option Addr} {n : Nat} {l : List Bool} (h : Bools w ao n l) (k : Below w.heap.size w w') : Bools w' ao n l := by
  obtain ⟨h1, h2, h3⟩ := h
  exact ⟨h1, h2, fun ad had j b hb => (Below.cell k (cell_lt (h3 ad had j b hb))).trans (h3 ad had j b hb)⟩

/-- The sectors, one of them laid anew. -/
theorem DiskAt.nowSet {w : World} {f : Foot} {st : DSt} {i : Nat} (h : DiskAt w f st) (hi : i < st.now.length) (u : Value) (l : List UInt8) (t : Bool) (hu : Byt w f.bs u l) (now' : List Sec) (hs : now' = st.now.set i (l, t)) (hinv : ({ st with now := now' } : DSt).Inv) :
    DiskAt ((w.setCell ⟨f.n, i * 2, none⟩ u).setCell ⟨f.n, i * 2 + 1, none⟩ (.bool t)) f { st with now := now' } ∧ Turned f w f ((w.setCell ⟨f.n, i * 2, none⟩ u).setCell ⟨f.n, i * 2 + 1, none⟩ (.bool t)) := by
  have hch : Chg (fun k => k = f.n) w ((w.setCell ⟨f.n, i * 2, none⟩ u).setCell ⟨f.n, i * 2 + 1, none⟩ (.bool t)) := chgG (chgG (Chg.refl _ _) _ _) _ _
  obtain ⟨p1, p2, p3, p4⟩ := h.nNe
  obtain ⟨wv, a1, a2, a3⟩ := h.head
  have b : ∀ k, f.bs k → ¬ k = f.n := fun k hk e => by subst e; exact p4 hk
  have hl : now'.length = st.now.length := by rw [hs, List.length_set]
  refine ⟨⟨⟨wv, ?_, a2, a3.chg hch (fun k hk e => p3 (by rw [← a2, hk, e])) b (fun _ e => e)⟩, ?_, h.safe.chg hch p2 b (fun _ e => e), h.ne, hinv, by show now'.length ≤ _; rw [hl]; exact h.len, h.fuse, fun k hk => Nat.lt_of_lt_of_le (h.lt k hk) hch.size, fun k hk => by obtain ⟨c, hc⟩ := h.ty k hk; exact ⟨c, hc.chg hch (b k hk)⟩⟩, rfl, fun k hk => .inl hk, hch.mono (fun k _ e => .inl (.inr (.inl e)))⟩
  · show Blk _ _ (hd f.n f.s now'.length wv st.fuse st.down st.steps) _
    rw [hl]
    exact a1.chg hch p1
  · show SecsAt _ _ _ now'
    rw [hs]
    exact SecsAt.set (i := i) h.now u l t hu p4 hi

theorem cls_w (W : World) (S : Nat → Prop) : Nonempty (Cls (Chg S W)) := ⟨⟨W, Chg.refl _ _⟩⟩

set_option maxRecDepth 10000 in
set_option maxHeartbeats 4000000 in
theorem on_any (f : Foot) (st : DSt) (ko : Option Addr) (kn kc : Nat) (keep : List Bool) (tear : Int) (w : World) (h : DiskAt w f st) (hkp : Bools w ko kn keep) (hkf : ∀ ad, ko = some ad → 0 < kn → ¬ f.has ad.block) (hkm : kn ≤ maxLen) :
    Calls Try.prog 30 #[dptr f.g, .slice ko kn kc, .int .i64 tear] w fun e w' => e = .returned (.tuple #[]) ∧ DiskAt w' f (st.on keep tear) ∧ Turned f w f w' := by
  have HD0 : Hid (DiskAt w f st) := h
  have HK : Hid (Bools w ko kn keep) := hkp
  have HKF : Hid (∀ ad, ko = some ad → 0 < kn → ¬ f.has ad.block) := hkf
  obtain ⟨ao, n, cap, c2, hn, -, -, h1, h2⟩ := h.waitsCell
  unfold maxLen at h2 hkm
  have HN : Hid (n = st.waits.length) := hn
  clear hn h hkp hkf
  go_enter Try.func30, Try.ntmps30
  go_wp2_with fail
  go_loopw [17] (fun vi wr => ∃ k : Nat, vi = .int .i64 (k : Int) ∧ k ≤ n ∧ DiskAt wr f { st with safe := staysTo keep tear st.safe st.waits k } ∧ Turned f w f wr ∧ wr.cell? ⟨f.g, 2, none⟩ = some (.slice ao n cap)) (fun vi _ => n - (intOf vi).toNat)
  case atStart => exact ⟨0, rfl, Nat.zero_le _, HD0.out, Turned.refl _ _, c2⟩
  case round =>
    obtain ⟨k, rfl, hk, hD, hT, hc2⟩ := hrel
    by_cases hlt : k < n
    · have hkw : k < st.waits.length := by rw [← HN.out]; exact hlt
      obtain ⟨ao', n', cap', e2, -, hwt, -⟩ := hD.waitsCell
      rw [hc2] at e2
      simp only [Option.some.injEq, Value.slice.injEq] at e2
      obtain ⟨rfl, rfl, rfl⟩ := e2
      obtain ⟨gw, u, rfl, a1, a2, a3⟩ := hwt.get hkw
      have hat : st.waits[k].1 < st.now.length := hD.inv.ats _ (List.getElem_mem hkw)
      obtain ⟨i, hi⟩ : ∃ i, st.waits[k].1 = i := ⟨_, rfl⟩
      rw [hi] at a1 hat
      obtain ⟨bo, bn, hu⟩ := a3.form
      subst hu
      have hsl : i < (staysTo keep tear st.safe st.waits k).length := by rw [staysTo_length, HD0.out.inv.len]; exact hat
      have hB0 : Below wr.heap.size wr (wr.alloc (.cells #[.int .i64 (i : Int), .slice bo bn bn] 88)) := (Below.refl _ _).alloc (Nat.le_refl _) _
      have hB' : Below wr.heap.size wr (wr.alloc (.cells #[.int .i64 (i : Int), .slice bo bn bn] 88)).drew := hB0.drew
      have hDW := hD.below hB'
      have hTW := hT.trans (Turned.of_below hB')
      have hby : Byt (wr.alloc (.cells #[.int .i64 (i : Int), .slice bo bn bn] 88)).drew f.bs (.slice bo bn bn) st.waits[k].2 := a3.chg (Chg.of_below (S := fun i => wr.heap.size ≤ i) hB' (fun i _ e => e)) (fun j hj e => by have := hD.lt j hj; omega) (fun _ e => e)
      obtain ⟨wv', d0, d1, d2, -⟩ := hDW.cells
      have d1' : (wr.alloc (.cells #[.int .i64 (i : Int), .slice bo bn bn] 88)).drew.cell? ⟨f.g, 1, none⟩ = some (.slice (some ⟨f.s, 0, none⟩) st.now.length st.now.length) := d1
      obtain ⟨us, s0, s1', -, hfs⟩ := SecsAt.get (i := i) hDW.safe hsl
      have l0 : (wr.alloc (.cells #[.int .i64 (i : Int), .slice bo bn bn] 88)).drew.cell? ⟨wr.heap.size, 0, none⟩ = some (.int .i64 (i : Int)) := (Blk.new wr _ _).cell 0
      have l1 : (wr.alloc (.cells #[.int .i64 (i : Int), .slice bo bn bn] 88)).drew.cell? ⟨wr.heap.size, 1, none⟩ = some (.slice bo bn bn) := (Blk.new wr _ _).cell 1
      have HTH : Hid (World.there _ _ _ _) := there2 s0 s1' hfs
      have HDW : Hid (DiskAt _ _ _) := hDW
      have HTW : Hid (Turned f w f _) := hTW
      have HC2W : Hid ((wr.alloc (.cells #[.int .i64 (i : Int), .slice bo bn bn] 88)).drew.cell? ⟨f.g, 2, none⟩ = some (.slice (some ⟨gw, 0, none⟩) n cap)) := (Below.cell hB' (cell_lt hc2)).trans hc2
      have HBY : Hid (Byt _ _ _ _) := hby
      have HDA : Hid (DiskAt _ _ _) := hD.below hB0
      have HTA : Hid (Turned f w f _) := hT.trans (Turned.of_below hB0)
      have HC2A : Hid ((wr.alloc (.cells #[.int .i64 (i : Int), .slice bo bn bn] 88)).cell? ⟨f.g, 2, none⟩ = some (.slice (some ⟨gw, 0, none⟩) n cap)) := (Below.cell hB0 (cell_lt hc2)).trans hc2
      obtain ⟨q1, q2, -, -⟩ := hDW.sNe
      have hsz : f.s ≠ wr.heap.size := fun e => by obtain ⟨c, hc, _⟩ := hD.safe; have := hc.lt; omega
      have k1 := cellC (S := fun k => k = f.s) d1' q1
      have k4 := cellC (S := fun k => k = f.s) l0 (fun e => hsz e.symm)
      have k5 := cellC (S := fun k => k = f.s) l1 (fun e => hsz e.symm)
      have hat' : (i : Int) < (st.now.length : Int) := by omega
      have HBK : Hid (Bools _ ko kn keep) := (HK.out.chg hT.chg HKF.out).below hB0
      have HSK : Hid (staysTo keep tear st.safe st.waits (k + 1) = if keep.getD k false = true then (staysTo keep tear st.safe st.waits k).set i (st.waits[k].2, false) else if (k : Int) = tear then (staysTo keep tear st.safe st.waits k).set i (zeros, true) else staysTo keep tear st.safe st.waits k) := by
        show _ = _
        conv => lhs; unfold staysTo
        rw [List.getElem?_eq_getElem hkw]
        simp only [hi]
      clear hD hT hc2 hwt a3 hi hDW hTW d0 d1 d2 s0 s1' hfs l0 l1 d1' hB' hB0 hby q2
      by_cases hkk : keep.getD k false = true
      · have HSK' : Hid (staysTo keep tear st.safe st.waits (k + 1) = (staysTo keep tear st.safe st.waits k).set i (st.waits[k].2, false)) := by show _ = _; rw [HSK.out, if_pos hkk]
        have hkl : k < keep.length := by
          rcases Nat.lt_or_ge k keep.length with h | h
          · exact h
          · rw [List.getD_eq_getElem?_getD, List.getElem?_eq_none h] at hkk; cases hkk
        have hkn : k < kn := by rw [← HBK.out.1]; exact hkl
        obtain ⟨ad, rfl⟩ : ∃ ad, ko = some ad := by
          cases ko with
          | none => have := HBK.out.2.1 rfl; subst this; simp at hkl
          | some ad => exact ⟨ad, rfl⟩
        have kc1 : (wr.alloc (.cells #[.int .i64 (i : Int), .slice bo bn bn] 88)).cell? (ad.add k) = some (.bool true) := HBK.out.2.2 ad rfl k true (by rw [List.getElem?_eq_getElem hkl]; rw [List.getD_eq_getElem?_getD, List.getElem?_eq_getElem hkl] at hkk; simpa using hkk)
        have hd1 : decide ((k : Int) < (kn : Int)) = true := decide_eq_true (by omega)
        clear hkk HSK
        go_wp2_with fail
        haveI nE := cls_chg (fun k => k = f.s) (wr.alloc (.cells #[.int .i64 (i : Int), .slice bo bn bn] 88)).drew
        refine wp_region_seg (Chg (fun k => k = f.s) (wr.alloc (.cells #[.int .i64 (i : Int), .slice bo bn bn] 88)).drew) (by kernel_rfl) ?_
        refine wpAnyH_seg (by kernel_rfl) (fun _ _ _ h => h) [0, 1, 2, 3, 4, 5, 6, 7, 8, 9] 1 _ _ _ (Chg.refl _ _) (by kernel_rfl) ?_
        simp only [opsAt, List.getElem?_toArray, List.getElem?_cons_zero, List.getElem?_cons_succ, List.cons_append, List.nil_append]
        repeat (go_big_quiet_step (fail))
        refine wpQuiet_nil ?_
        clear k1 k4 k5 nE
        refine wpAnyH_all (rs := [10]) (fuel := 0) (by kernel_rfl) (by simp) fun j hj => ?_
        obtain rfl : j = 10 := by simpa using hj
        refine wpOp_store2 rfl (by kernel_rfl) _ _ _ rfl rfl f.s (i * 2) (.slice bo bn bn) (.bool false) rfl rfl HTH.out (by kernel_rfl) rfl rfl ?_
        refine ⟨chgG (chgG (Chg.refl _ _) _ _) _ _, ?_⟩
        refine wpAnyH_done (by kernel_rfl) (NoPanic.normal ?_) 0
        go_wp2
        go_roundw
        case rel =>
          obtain ⟨r1, r2⟩ := DiskAt.safeSet HDW.out hsl (.slice bo bn bn) st.waits[k].2 false HBY.out _ HSK'.out (HD0.out.inv.staying keep tear (k + 1))
          refine ⟨k + 1, by go_num, by omega, r1, HTW.out.trans r2, ?_⟩
          have hch : Chg (fun k => k = f.s) (wr.alloc (.cells #[.int .i64 (i : Int), .slice bo bn bn] 88)).drew _ := chgG (chgG (Chg.refl _ _) (i * 2) (.slice bo bn bn)) (i * 2 + 1) (.bool false)
          exact hch.cell HC2W.out (fun e => q1 e)
        case measure => simp [intOf]; omega
      · have hkk' : ¬ keep.getD k false = true := hkk
        by_cases hkt : (k : Int) = tear
        · have HSK' : Hid (staysTo keep tear st.safe st.waits (k + 1) = (staysTo keep tear st.safe st.waits k).set i (zeros, true)) := by show _ = _; rw [HSK.out, if_neg hkk', if_pos hkt]
          have hbt : ((k : Int) == tear) = true := beq_iff_eq.2 hkt
          by_cases hkn : k < kn
          · have hkl : k < keep.length := by rw [HBK.out.1]; exact hkn
            obtain ⟨ad, rfl⟩ : ∃ ad, ko = some ad := by
              cases ko with
              | none => have := HBK.out.2.1 rfl; subst this; simp at hkl
              | some ad => exact ⟨ad, rfl⟩
            have kc1 : (wr.alloc (.cells #[.int .i64 (i : Int), .slice bo bn bn] 88)).cell? (ad.add k) = some (.bool false) := HBK.out.2.2 ad rfl k false (by rw [List.getElem?_eq_getElem hkl]; rw [List.getD_eq_getElem?_getD, List.getElem?_eq_getElem hkl] at hkk; simpa using hkk)
            have hd1 : decide ((k : Int) < (kn : Int)) = true := decide_eq_true (by omega)
            clear hkk HSK hkk' hkt
            go_wp2_with fail
            haveI nE := cls_chg (fun k => k = f.s) (wr.alloc (.cells #[.int .i64 (i : Int), .slice bo bn bn] 88)).drew
            refine wp_region_seg (Chg (fun k => k = f.s) (wr.alloc (.cells #[.int .i64 (i : Int), .slice bo bn bn] 88)).drew) (by kernel_rfl) ?_
            refine wpAnyH_seg (by kernel_rfl) (fun _ _ _ h => h) [0, 1, 2, 3, 4, 5, 6, 7] 1 _ _ _ (Chg.refl _ _) (by kernel_rfl) ?_
            simp only [opsAt, List.getElem?_toArray, List.getElem?_cons_zero, List.getElem?_cons_succ, List.cons_append, List.nil_append]
            repeat (go_big_quiet_step (fail))
            refine wpQuiet_nil ?_
            clear k1 k4 k5 nE
            refine wpAnyH_all (rs := [8]) (fuel := 0) (by kernel_rfl) (by simp) fun j hj => ?_
            obtain rfl : j = 8 := by simpa using hj
            refine wpOp_store2 rfl (by kernel_rfl) _ _ _ rfl rfl f.s (i * 2) (.slice none 0 0) (.bool true) rfl rfl HTH.out (by kernel_rfl) rfl rfl ?_
            refine ⟨chgG (chgG (Chg.refl _ _) _ _) _ _, ?_⟩
            refine wpAnyH_done (by kernel_rfl) (NoPanic.normal ?_) 0
            go_wp2
            go_roundw
            case rel =>
              obtain ⟨r1, r2⟩ := DiskAt.safeSet HDW.out hsl (.slice none 0 0) zeros true (⟨zeros_length, .inl ⟨rfl, rfl⟩⟩) _ HSK'.out (HD0.out.inv.staying keep tear (k + 1))
              refine ⟨k + 1, by go_num, by omega, r1, HTW.out.trans r2, ?_⟩
              have hch : Chg (fun k => k = f.s) (wr.alloc (.cells #[.int .i64 (i : Int), .slice bo bn bn] 88)).drew _ := chgG (chgG (Chg.refl _ _) (i * 2) (.slice none 0 0)) (i * 2 + 1) (.bool true)
              exact hch.cell HC2W.out (fun e => q1 e)
            case measure => simp [intOf]; omega
          · have hd1 : decide ((k : Int) < (kn : Int)) = false := decide_eq_false (by omega)
            clear hkk HSK hkk' hkt
            go_wp2_with fail
            haveI nE := cls_chg (fun k => k = f.s) (wr.alloc (.cells #[.int .i64 (i : Int), .slice bo bn bn] 88)).drew
            refine wp_region_seg (Chg (fun k => k = f.s) (wr.alloc (.cells #[.int .i64 (i : Int), .slice bo bn bn] 88)).drew) (by kernel_rfl) ?_
            refine wpAnyH_seg (by kernel_rfl) (fun _ _ _ h => h) [0, 1, 2, 3, 4, 5, 6, 7] 1 _ _ _ (Chg.refl _ _) (by kernel_rfl) ?_
            simp only [opsAt, List.getElem?_toArray, List.getElem?_cons_zero, List.getElem?_cons_succ, List.cons_append, List.nil_append]
            repeat (go_big_quiet_step (fail))
            refine wpQuiet_nil ?_
            clear k1 k4 k5 nE
            refine wpAnyH_all (rs := [8]) (fuel := 0) (by kernel_rfl) (by simp) fun j hj => ?_
            obtain rfl : j = 8 := by simpa using hj
            refine wpOp_store2 rfl (by kernel_rfl) _ _ _ rfl rfl f.s (i * 2) (.slice none 0 0) (.bool true) rfl rfl HTH.out (by kernel_rfl) rfl rfl ?_
            refine ⟨chgG (chgG (Chg.refl _ _) _ _) _ _, ?_⟩
            refine wpAnyH_done (by kernel_rfl) (NoPanic.normal ?_) 0
            go_wp2
            go_roundw
            case rel =>
              obtain ⟨r1, r2⟩ := DiskAt.safeSet HDW.out hsl (.slice none 0 0) zeros true (⟨zeros_length, .inl ⟨rfl, rfl⟩⟩) _ HSK'.out (HD0.out.inv.staying keep tear (k + 1))
              refine ⟨k + 1, by go_num, by omega, r1, HTW.out.trans r2, ?_⟩
              have hch : Chg (fun k => k = f.s) (wr.alloc (.cells #[.int .i64 (i : Int), .slice bo bn bn] 88)).drew _ := chgG (chgG (Chg.refl _ _) (i * 2) (.slice none 0 0)) (i * 2 + 1) (.bool true)
              exact hch.cell HC2W.out (fun e => q1 e)
            case measure => simp [intOf]; omega
        · have HSK' : Hid (staysTo keep tear st.safe st.waits (k + 1) = staysTo keep tear st.safe st.waits k) := by show _ = _; rw [HSK.out, if_neg hkk', if_neg hkt]
          have hbt : ((k : Int) == tear) = false := beq_eq_false_iff_ne.2 hkt
          by_cases hkn : k < kn
          · have hkl : k < keep.length := by rw [HBK.out.1]; exact hkn
            obtain ⟨ad, rfl⟩ : ∃ ad, ko = some ad := by
              cases ko with
              | none => have := HBK.out.2.1 rfl; subst this; simp at hkl
              | some ad => exact ⟨ad, rfl⟩
            have kc1 : (wr.alloc (.cells #[.int .i64 (i : Int), .slice bo bn bn] 88)).cell? (ad.add k) = some (.bool false) := HBK.out.2.2 ad rfl k false (by rw [List.getElem?_eq_getElem hkl]; rw [List.getD_eq_getElem?_getD, List.getElem?_eq_getElem hkl] at hkk; simpa using hkk)
            have hd1 : decide ((k : Int) < (kn : Int)) = true := decide_eq_true (by omega)
            clear hkk HSK hkk' hkt k1 k4 k5
            go_wp2_with fail
            go_roundw
            case rel => exact ⟨k + 1, by go_num, by omega, by rw [HSK'.out]; exact HDA.out, HTA.out, HC2A.out⟩
            case measure => simp [intOf]; omega
          · have hd1 : decide ((k : Int) < (kn : Int)) = false := decide_eq_false (by omega)
            clear hkk HSK hkk' hkt k1 k4 k5
            go_wp2_with fail
            go_roundw
            case rel => exact ⟨k + 1, by go_num, by omega, by rw [HSK'.out]; exact HDA.out, HTA.out, HC2A.out⟩
            case measure => simp [intOf]; omega
    · have hkn : k = st.waits.length := by rw [← HN.out]; omega
      have hD' := hD
      rw [hkn] at hD'
      have HD2 : Hid (DiskAt wr f { st with safe := st.stays keep tear }) := hD'
      have HT2 : Hid (Turned f w f wr) := hT
      have hc2' := hc2
      obtain ⟨S, HD2, HSE⟩ : ∃ S, Hid (DiskAt wr f { st with safe := S }) ∧ Hid (S = st.stays keep tear) := ⟨_, HD2, rfl⟩
      clear hD hD' hkn hT c2 hc2
      generalize wr = w0 at *
      go_wp2_with fail
      go_loopw [59] (fun vi wr => ∃ k : Nat, vi = .int .i64 (k : Int) ∧ k ≤ n ∧ DiskAt wr f { st with now := copyTo S st.now st.waits k, safe := S } ∧ Turned f w f wr ∧ wr.cell? ⟨f.g, 2, none⟩ = some (.slice ao n cap)) (fun vi _ => n - (intOf vi).toNat)
      case atStart => exact ⟨0, rfl, Nat.zero_le _, HD2.out, HT2.out, hc2'⟩
      case round =>
        obtain ⟨k, rfl, hk, hD, hT, hc2⟩ := hrel
        have hnl : (copyTo S st.now st.waits k).length = st.now.length := copyTo_length _ _ _ _
        by_cases hlt : k < n
        · have hkw : k < st.waits.length := by rw [← HN.out]; exact hlt
          obtain ⟨ao', n', cap', e2, -, hwt, -⟩ := hD.waitsCell
          rw [hc2] at e2
          simp only [Option.some.injEq, Value.slice.injEq] at e2
          obtain ⟨rfl, rfl, rfl⟩ := e2
          obtain ⟨gw, u, rfl, a1, a2, a3⟩ := hwt.get hkw
          have hat : st.waits[k].1 < (copyTo S st.now st.waits k).length := hD.inv.ats _ (List.getElem_mem hkw)
          obtain ⟨i, hi⟩ : ∃ i, st.waits[k].1 = i := ⟨_, rfl⟩
          rw [hi] at a1 hat
          obtain ⟨bo, bn, hu⟩ := a3.form
          subst hu
          have hsl : i < S.length := by have := hD.inv.len; simp only at this; rw [this]; exact hat
          have hB' : Below wr.heap.size wr (wr.alloc (.cells #[.int .i64 (i : Int), .slice bo bn bn] 88)).drew := ((Below.refl _ _).alloc (Nat.le_refl _) _).drew
          have hDW := hD.below hB'
          have hTW := hT.trans (Turned.of_below hB')
          have HCP : Hid (copyTo S st.now st.waits (k + 1) = (copyTo S st.now st.waits k).set i S[i]) := by
            show _ = _
            conv => lhs; unfold copyTo
            rw [List.getElem?_eq_getElem hkw]
            simp only [hi, List.getD_eq_getElem?_getD, List.getElem?_eq_getElem hsl, Option.getD_some]
          obtain ⟨wv', d0, d1, d2, -⟩ := hDW.cells
          have d0' : (wr.alloc (.cells #[.int .i64 (i : Int), .slice bo bn bn] 88)).drew.cell? ⟨f.g, 0, none⟩ = some (.slice (some ⟨f.n, 0, none⟩) (copyTo S st.now st.waits k).length (copyTo S st.now st.waits k).length) := d0
          have d1' : (wr.alloc (.cells #[.int .i64 (i : Int), .slice bo bn bn] 88)).drew.cell? ⟨f.g, 1, none⟩ = some (.slice (some ⟨f.s, 0, none⟩) (copyTo S st.now st.waits k).length (copyTo S st.now st.waits k).length) := d1
          obtain ⟨un, n0, n1, hbn, -⟩ := SecsAt.get (i := i) hDW.safe hsl
          obtain ⟨us, s0, s1', -, hfs⟩ := SecsAt.get (i := i) hDW.now hat
          have n1' : (wr.alloc (.cells #[.int .i64 (i : Int), .slice bo bn bn] 88)).drew.cell? ⟨f.s, i * 2 + 1, none⟩ = some (.bool S[i].2) := n1
          obtain ⟨uo, um, rfl⟩ := hbn.form
          have l0 : (wr.alloc (.cells #[.int .i64 (i : Int), .slice bo bn bn] 88)).drew.cell? ⟨wr.heap.size, 0, none⟩ = some (.int .i64 (i : Int)) := (Blk.new wr _ _).cell 0
          have HTH : Hid (World.there _ _ _ _) := there2 s0 s1' hfs
          have HSS : Hid (_ ∧ _) := DiskAt.nowSet hDW hat (.slice uo um um) S[i].1 S[i].2 hbn _ HCP.out (HD2.out.inv.coming (k + 1))
          have HC2N : Hid ((((wr.alloc (.cells #[.int .i64 (i : Int), .slice bo bn bn] 88)).drew.setCell ⟨f.n, i * 2, none⟩ (.slice uo um um)).setCell ⟨f.n, i * 2 + 1, none⟩ (.bool S[i].2)).cell? ⟨f.g, 2, none⟩ = some (.slice (some ⟨gw, 0, none⟩) n cap)) := by
            have hch : Chg (fun k => k = f.n) (wr.alloc (.cells #[.int .i64 (i : Int), .slice bo bn bn] 88)).drew _ := chgG (chgG (Chg.refl _ _) (i * 2) (.slice uo um um)) (i * 2 + 1) (.bool S[i].2)
            exact hch.cell ((Below.cell hB' (cell_lt hc2)).trans hc2) (fun e => hDW.nNe.1 e)
          have HTW : Hid (Turned f w f _) := hTW
          obtain ⟨q1, q2, -, -⟩ := hDW.nNe
          have hsz : f.n ≠ wr.heap.size := fun e => by obtain ⟨c, hc, _⟩ := hD.now; have := hc.lt; omega
          have k0 := cellC (S := fun k => k = f.n) d0' q1
          have k1 := cellC (S := fun k => k = f.n) d1' q1
          have k2 := cellC (S := fun k => k = f.n) n0 q2
          have k3 := cellC (S := fun k => k = f.n) n1' q2
          have k4 := cellC (S := fun k => k = f.n) l0 (fun e => hsz e.symm)
          have hat' : (i : Int) < ((copyTo S st.now st.waits k).length : Int) := by omega
          clear hD hT hc2 hwt a3 hi hDW hTW d0 d1 d2 n0 n1 hbn s0 s1' hfs l0 d0' d1' n1' hB' q1 q2 hnl
          generalize S[i].2 = tn at *
          go_wp2_with fail
          haveI nE := cls_chg (fun k => k = f.n) (wr.alloc (.cells #[.int .i64 (i : Int), .slice bo bn bn] 88)).drew
          refine wp_region_seg (Chg (fun k => k = f.n) (wr.alloc (.cells #[.int .i64 (i : Int), .slice bo bn bn] 88)).drew) (by kernel_rfl) ?_
          refine wpAnyH_seg (by kernel_rfl) (fun _ _ _ h => h) [0, 1, 2, 3, 4, 5, 6, 7, 8, 9, 10, 11, 12, 13, 14] 1 _ _ _ (Chg.refl _ _) (by kernel_rfl) ?_
          simp only [opsAt, List.getElem?_toArray, List.getElem?_cons_zero, List.getElem?_cons_succ, List.cons_append, List.nil_append]
          repeat (go_big_quiet_step (fail))
          refine wpQuiet_nil ?_
          clear k0 k1 k2 k3 k4 nE
          refine wpAnyH_all (rs := [15]) (fuel := 0) (by kernel_rfl) (by simp) fun j hj => ?_
          obtain rfl : j = 15 := by simpa using hj
          refine wpOp_store2 rfl (by kernel_rfl) _ _ _ rfl rfl f.n (i * 2) (.slice uo um um) (.bool tn) rfl rfl HTH.out (by kernel_rfl) rfl rfl ?_
          refine ⟨chgG (chgG (Chg.refl _ _) _ _) _ _, ?_⟩
          refine wpAnyH_done (by kernel_rfl) (NoPanic.normal ?_) 0
          go_wp2
          go_roundw
          case rel => exact ⟨k + 1, by go_num, by omega, HSS.out.1, HTW.out.trans HSS.out.2, HC2N.out⟩
          case measure => simp [intOf]; omega
        · have hkn : k = st.waits.length := by rw [← HN.out]; omega
          have hD' := hD
          have hon : copyTo S st.now st.waits st.waits.length = S := by rw [HSE.out]; exact HD0.out.inv.onNow keep tear
          rw [hkn, hon] at hD'
          have HF : Hid (Calls _ _ _ _ _) := forget_any f _ wr hD' rfl
          have HTr : Hid (Turned f w f wr) := hT
          clear hD hD' hkn hc2 hT hon hnl
          go_wp2_with fail
          refine Calls.mono HF.out ?_
          rintro e w3 ⟨rfl, hD3, hT3⟩
          have HT3 : Hid (Turned f w f w3) := HTr.out.trans hT3
          have HD3 : Hid (DiskAt w3 f _) := hD3
          obtain ⟨wv, -, -, -, c3, c4, -, -, -, hfz, -⟩ := hD3.cells
          clear hD3 hT3 HF HTr
          go_wp2
          go_end0
          have hch := chgG (chgG (Chg.refl (fun i => i = f.g) w3) 3 (.int .i64 0)) 4 (.bool false)
          have hfin := HD3.out.headed hch (fu := 0) (dn := false) (sp := st.steps) (by omega) (fun wv hb => (hb.set 3 _).set 4 _)
          refine ⟨rfl, ?_, HT3.out.trans (Turned.of_chg hch)⟩
          have hS := HSE.out
          subst hS
          exact hfin

set_option maxHeartbeats 400000 in
theorem on_nil (ko : Option Addr) (kn kc : Nat) (tear : Int) (w : World) : Calls Try.prog 30 #[.pointer none, .slice ko kn kc, .int .i64 tear] w fun e w' => e = .returned (.tuple #[]) ∧ w' = w := by
  go_enter Try.func30, Try.ntmps30
  go_wp2
  refine bodyPost_ret (results_none rfl _ _ _) rfl ?_
  exact ⟨rfl, rfl⟩
set_option maxHeartbeats 400000 in
theorem fuse_nil (i : Int) (w : World) : Calls Try.prog 21 #[.pointer none, .int .i64 i] w fun e w' => e = .returned (.tuple #[]) ∧ w' = w := by
  go_enter Try.func21, Try.ntmps21
  go_wp2
  refine bodyPost_ret (results_none rfl _ _ _) rfl ?_
  exact ⟨rfl, rfl⟩
set_option maxHeartbeats 400000 in
theorem off_nil (w : World) : Calls Try.prog 29 #[.pointer none] w fun e w' => e = .returned (.tuple #[]) ∧ w' = w := by
  go_enter Try.func29, Try.ntmps29
  go_wp2
  refine bodyPost_ret (results_none rfl _ _ _) rfl ?_
  exact ⟨rfl, rfl⟩
set_option maxHeartbeats 400000 in
theorem down_nil (w : World) : Calls Try.prog 22 #[.pointer none] w fun e w' => e = .returned (.bool false) ∧ w' = w := by
  go_enter Try.func22, Try.ntmps22
  go_wp2
  go_ret
  exact ⟨rfl, rfl⟩
end Go.Proofs.Ytepfckckplbjjaa

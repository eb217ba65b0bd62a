/- NetRuns: a round that takes. Own lemmas, no statement. -/
import Derived.Test.YtcemecclpofhbaaNRun9
set_option linter.unusedSimpArgs false
set_option linter.unusedVariables false
namespace Go.Proofs.Ytcemecclpofhbaa
open Go.ChangeShapes Go.WideShapes Go.ChangeAt Go.RowKit

theorem LetI.headCells {W : World} {B g n c : Nat} {us : List LetV} (h : LetI W B (.slice (some ⟨g, 0, none⟩) n c) us) (j : Nat) : ∀ i u, ((us.take j).map LetV.cs).flatten[i]? = some u → W.cell? ((⟨g, 0, none⟩ : Addr).add i) = some u := fun i u hu => by
  refine h.own.cells rfl i u ?_
  have hs : (us.map LetV.cs).flatten = ((us.take j).map LetV.cs).flatten ++ ((us.drop j).map LetV.cs).flatten := by rw [← List.flatten_append, ← List.map_append, List.take_append_drop]
  rw [hs, List.getElem?_append_left (List.getElem?_eq_some_iff.1 hu).1]
  exact hu
theorem LetI.tailCells {W : World} {B g n c : Nat} {us : List LetV} (h : LetI W B (.slice (some ⟨g, 0, none⟩) n c) us) (j : Nat) (hj : j ≤ us.length) : ∀ i u, ((us.drop j).map LetV.cs).flatten[i]? = some u → W.cell? ((⟨g, j * 2, none⟩ : Addr).add i) = some u := fun i u hu => by
  have hs : (us.map LetV.cs).flatten = ((us.take j).map LetV.cs).flatten ++ ((us.drop j).map LetV.cs).flatten := by rw [← List.flatten_append, ← List.map_append, List.take_append_drop]
  have hl : ((us.take j).map LetV.cs).flatten.length = j * 2 := by rw [flat_len, List.length_take, Nat.min_eq_left hj]
  have := h.own.cells rfl (j * 2 + i) u (by rw [hs, List.getElem?_append_right (by omega), hl, Nat.add_sub_cancel_left]; exact hu)
  rw [Addr.add_mid] at this ⊢
  rw [Nat.zero_add] at this
  exact this
theorem exec_build0L {ρ : Operand → Value} {o : Oper} {w : World} (ho : o.op = .buildSlice 25 0 #[]) : (execOp ρ o).run Try.prog w = .ok (.value (.slice (some ⟨w.heap.size, 0, none⟩) 0 0)) (w.alloc (.cells #[] 34)) := by
  unfold execOp
  rw [ho]
  go_simp
/-- What an append of letters that lie in a row does. -/
theorem run_appL (W : World) (ty : TypeId) (B : Nat) (v : Value) (ls ms : List LetV) (ad : Addr) (m c : Nat) (hown : W.ownsRow B 34 2 v ls.length (ls.map LetV.cs).flatten) (hm : ms.length = m) (hnews : ∀ j u, (ms.map LetV.cs).flatten[j]? = some u → W.cell? (ad.add j) = some u) (hl : ls.length + m ≤ 2000) (hB : B ≤ W.heap.size) :
    ∃ a' c' W', (Builtin.append_ #[25, 25] ty #[v, .slice (some ad) m c]).run Try.prog W = .ok (.slice a' (ls ++ ms).length c') W' ∧ W'.ownsRow B 34 2 (.slice a' (ls ++ ms).length c') (ls ++ ms).length ((ls ++ ms).map LetV.cs).flatten ∧ W.grownBy W' v.ownBlock := by
  obtain ⟨i0, hi, hz0, hz1, hz2⟩ := info_parts infoL
  subst hm
  have hone : ∀ u ∈ (ms.map LetV.cs).flatten, u.oneCell' = true := fun u hu => by
    obtain ⟨l, hl1, hl2⟩ := List.mem_flatten.1 hu
    obtain ⟨x, _, rfl⟩ := List.mem_map.1 hl1
    exact cs_one x u hl2
  obtain ⟨v', w', hr, h1, h2, _, _⟩ := run_append_own_at (P := Try.prog) W B 25 ty 34 i0 (.agg #[.int .i64 0, .slice none 0 0]) 2 32 Try.underlying25 hi hz0 hz1 hz2 rfl (by decide) v ls.length _ hown ad ms.length c (ms.map LetV.cs).flatten (flat_len ms) hnews hone (by unfold maxLen; omega) (by omega) hB
  have h5 : w'.ownsRow B 34 2 v' (ls ++ ms).length ((ls ++ ms).map LetV.cs).flatten := by
    rw [List.length_append, List.map_append, List.flatten_append]
    exact h1
  rcases h5.2 with ⟨e, h0⟩ | ⟨g, cap, cur, rfl, _⟩
  · refine ⟨none, 0, w', ?_, ?_, h2⟩
    · rw [h0, ← e]; exact hr
    · rw [h0, ← e]; rw [h0] at h5; exact h5
  · exact ⟨_, _, w', hr, h5, h2⟩
set_option maxRecDepth 100000 in
set_option maxHeartbeats 32000000 in
theorem run_take (w : World) (p : Nat) (ad : Addr) (len cap k n : Nat) (hlt1 : k < len) (hlt2 : k < 60) (T : Nat → Value) (v : Value) (ua : Option Addr) (uc : Nat) (ls us : List LetV) (wr : World) (Q : Exit → Act → World → Prop) (o : OpN) (hl63 : len ≤ 9223372036854775807) (hnk : n ≤ k) (hwp : w.heap.size ≤ p) (hop : OpNAt w ad k o) (hra : RunA w p n v ua uc ls us wr) (h0 : o.k = 1) : Goal w p ad len cap k n ua uc T Q wr := by
  have HK : Hid (o.k = 1) := h0
  clear h0
  have huc := hra.uc
  have hn60 : n ≤ 60 := by omega
  have HWP : Hid (w.heap.size ≤ p) := hwp
  have HOP0 : Hid (OpNAt w ad k o) := hop
  have HOP : Hid (OpNAt wr ad k o) := hop.below hra.below
  have HRA : Hid (RunA w p n v ua uc ls us wr) := hra
  have hd1 : decide ((k : Int) < (len : Int)) = true := decide_eq_true (by omega)
  have hd2 : decide ((k : Int) < 60) = true := decide_eq_true (by omega)
  have e0 : wr.cell? (ad.add (k * 5)) = some (.int .i64 o.k) := HOP.out.c0
  have e1 : wr.cell? ⟨(ad.add (k * 5)).block, (ad.add (k * 5)).off + 1, none⟩ = some (.int .i64 o.at_) := cell_on16 (by omega) HOP.out.c1
  have e2 : wr.cell? ⟨(ad.add (k * 5)).block, (ad.add (k * 5)).off + 2, none⟩ = some (.int .i64 o.i) := cell_on16 (by omega) HOP.out.c2
  have e3 : wr.cell? ⟨(ad.add (k * 5)).block, (ad.add (k * 5)).off + 3, none⟩ = some (.slice o.bo o.bn o.bc) := cell_on16 (by omega) HOP.out.c3
  have e4 : wr.cell? ⟨(ad.add (k * 5)).block, (ad.add (k * 5)).off + 4, none⟩ = some (.int .u8 (o.bt.toNat : Int)) := cell_on16 (by omega) HOP.out.c4
  obtain ⟨w3, hw3⟩ : ∃ w3, w3 = wr.alloc (.cells #[.int .i64 o.k, .int .i64 o.at_, .int .i64 o.i, .slice o.bo o.bn o.bc, .int .u8 (o.bt.toNat : Int)] 30) := ⟨_, rfl⟩
  have HB3 : Hid (Blk w3 wr.heap.size #[.int .i64 o.k, .int .i64 o.at_, .int .i64 o.i, .slice o.bo o.bn o.bc, .int .u8 (o.bt.toNat : Int)] 30) := by rw [hw3]; exact Blk.new _ _ _
  have HE3 : Hid (Below wr.heap.size wr w3) := by rw [hw3]; exact below_allocR _
  have ho63 : o.bn ≤ 9223372036854775807 := by have := HOP.out.src.at; unfold maxLen at this; omega
  clear hop hra hwp
  unfold Goal fr
  conv => arg 2; whnf
  go_upto_region 9 with fail
  rw [← hw3]
  clear hw3 e0 e1 e2 e3 e4 hd1 hd2
  have HR3 : Hid (RunA w p n v ua uc ls us w3) := HRA.out.go HE3.out
  have HS3 : Hid (Src w3 (.slice o.bo o.bn o.bc) o.bl ∧ o.bn = o.bl.length) := ⟨HOP.out.src.below HE3.out, HOP.out.src.at.1⟩
  have HWF : Hid ((Lit.int .i64 o.at_).wf = true ∧ (Lit.int .i64 o.i).wf = true) := ⟨HOP.out.w1, HOP.out.w2⟩
  have HQP : Hid (p < wr.heap.size ∧ (∀ i, FP p v ls i → i < wr.heap.size) ∧ ∀ i, FL (.slice ua n uc) us i → i < wr.heap.size) := ⟨HRA.out.x.net.blk.lt, fun i hi => (HRA.out.x.net.fp_lt hi).2, fun i hi => (HRA.out.x.own.lt hi).2⟩
  clear HRA HOP HE3
  generalize wr.heap.size = q at *
  have c0 : w3.cell? ⟨q, 0, none⟩ = some (.int .i64 o.k) := HB3.out.cell 0
  have c1 : w3.cell? ⟨q, 1, none⟩ = some (.int .i64 o.at_) := HB3.out.cell 1
  have c2 : w3.cell? ⟨q, 2, none⟩ = some (.int .i64 o.i) := HB3.out.cell 2
  have c3 : w3.cell? ⟨q, 3, none⟩ = some (.slice o.bo o.bn o.bc) := HB3.out.cell 3
  have c4 : w3.cell? ⟨q, 4, none⟩ = some (.int .u8 (o.bt.toNat : Int)) := HB3.out.cell 4
  by_cases g3 : 300 < o.bn
  · go_wp2_with fail
    refine ⟨⟨k + 1, n, v, ua, uc, ls, us, ⟨rfl, rfl, rfl, rfl, rfl, rfl, by go_num⟩, by omega, by omega, by omega, HWP.out, HR3.out⟩, ?_⟩
    simp [Rmu, intOf]; omega
  rw [HK.out] at c0
  have HX : Hid (Calls _ _ _ _ _) := at_any p p v ls o.at_ w3 HR3.out.x.net
  rcases in3 o.at_ n with h | ⟨ha, h⟩ | ⟨ha, h⟩
  · have HOUT : Hid (o.at_ < 0 ∨ (ls.length : Int) ≤ o.at_) := by have := of_decide_eq_false h; show _ ∨ _; omega
    have HNO : Hid (∀ e w', AtP ls o.at_ w3 e w' → e = .returned (.tuple #[.agg #[.int .i64 0, .slice none 0 0], .bool false]) ∧ Below w3.heap.size w3 w') := fun e w' hs => at_no hs HOUT.out
    go_wp2_with fail
    refine HX.out.mono ?_
    rintro e w4 ht
    obtain ⟨rfl, y⟩ := HNO.out _ _ ht
    obtain ⟨w5, hw5⟩ : ∃ w5, w5 = w4.alloc (.cells #[.int .i64 0, .slice none 0 0] 34) := ⟨_, rfl⟩
    have HE5 : Hid (Below w3.heap.size w3 w5) := by rw [hw5]; exact y.alloc y.size _
    have HBX : Hid (Blk w5 w4.heap.size #[.int .i64 0, .slice none 0 0] 34) := by rw [hw5]; exact Blk.new _ _ _
    have HQ3 : Hid (q < w3.heap.size ∧ w3.heap.size ≤ w4.heap.size) := ⟨HB3.out.lt, y.size⟩
    clear y ht HX HNO
    go_upto_region 29 with fail
    rw [← hw5]
    clear hw5 c0 c1 c2 c3 c4
    have HR5 : Hid (RunA w p n v ua uc ls us w5) := HR3.out.go HE5.out
    have HB5 : Hid (Blk w5 q #[.int .i64 o.k, .int .i64 o.at_, .int .i64 o.i, .slice o.bo o.bn o.bc, .int .u8 (o.bt.toNat : Int)] 30) := HB3.out.of (HE5.out.block _ HB3.out.lt)
    generalize w4.heap.size = b at *
    have c0 : w5.cell? ⟨q, 0, none⟩ = some (.int .i64 1) := by rw [← HK.out]; exact HB5.out.cell 0
    have c1 : w5.cell? ⟨q, 1, none⟩ = some (.int .i64 o.at_) := HB5.out.cell 1
    have z0 : w5.cell? ⟨b, 0, none⟩ = some (.int .i64 0) := HBX.out.cell 0
    have z1 : w5.cell? ⟨b, 1, none⟩ = some (.slice none 0 0) := HBX.out.cell 1
    have HX : Hid (Calls _ _ _ _ _) := take_any p p v ls o.at_ w5 HR5.out.x.net HWF.out.1
    have HTN : Hid (∀ e w', TakeP p p v ls o.at_ w5 e w' → e = .returned (.tuple #[.agg #[.int .i64 0, .slice none 0 0], .bool false]) ∧ Below w5.heap.size w5 w') := fun e w' hs => take_no hs HOUT.out
    go_wp2_with fail
    refine HX.out.mono ?_
    rintro e w6 ht
    obtain ⟨rfl, y⟩ := HTN.out _ _ ht
    have HR6 : Hid (RunA w p n v ua uc ls us w6) := HR5.out.go y
    have HB6 : Hid (Blk w6 b #[.int .i64 0, .slice none 0 0] 34) := HBX.out.of (y.block _ HBX.out.lt)
    clear y ht HX HTN c0 c1 z0 z1
    have y0 : w6.cell? ⟨b, 0, none⟩ = some (.int .i64 0) := HB6.out.cell 0
    have y1 : w6.cell? ⟨b, 1, none⟩ = some (.slice none 0 0) := HB6.out.cell 1
    have f0 := HB6.out.frozen 0
    have f1 := HB6.out.frozen 1
    have hbx : Blk ((w6.setCell ⟨b, 0, none⟩ (.int .i64 0)).setCell ⟨b, 1, none⟩ (.slice none 0 0)) b #[.int .i64 0, .slice none 0 0] 34 := by
      have := (HB6.out.set 0 (.int .i64 0)).set 1 (.slice none 0 0)
      simpa using this
    have HR7 : Hid (RunA w p n v ua uc ls us ((w6.setCell ⟨b, 0, none⟩ (.int .i64 0)).setCell ⟨b, 1, none⟩ (.slice none 0 0))) := HR6.out.off HWP.out (Chg.setCell (S := fun i => i = b) (Chg.setCell (S := fun i => i = b) (Chg.refl _ _) ⟨b, 0, none⟩ (fun _ => rfl) _) ⟨b, 1, none⟩ (fun _ => rfl) _) (fun i hi => by
      subst hi
      have h3 := HQ3.out
      refine ⟨by have := HQP.out.1; omega, fun h => ?_, fun h => ?_⟩
      · have := HQP.out.2.1 _ h; omega
      · have := HQP.out.2.2 _ h; omega)
    have HBX7 : Hid (Blk _ b _ _) := hbx
    clear hbx HR5 HR6 HB5 HBX HB6
    go_upto_region 31 with fail
    clear y0 y1 f0 f1
    generalize (w6.setCell ⟨b, 0, none⟩ (.int .i64 0)).setCell ⟨b, 1, none⟩ (.slice none 0 0) = w7 at *
    have z0 : w7.cell? ⟨b, 0, none⟩ = some (.int .i64 0) := HBX7.out.cell 0
    have z1 : w7.cell? ⟨b, 1, none⟩ = some (.slice none 0 0) := HBX7.out.cell 1
    have HX : Hid (Calls _ _ _ _ _) := len_any p p v ls w7 HR7.out.x.net
    rw [HR7.out.ln] at HX
    go_wp2_with fail
    refine HX.out.mono ?_
    rintro e wz ⟨rfl, hw⟩
    rw [hw]
    clear hw wz HX
    go_wp2_with fail
    refine ⟨⟨k + 1, n, v, _, uc, ls, us, ⟨rfl, rfl, rfl, rfl, rfl, rfl, by go_num⟩, by omega, by omega, by omega, HWP.out, HR7.out⟩, ?_⟩
    simp [Rmu, intOf]; omega
  · have HOUT : Hid (o.at_ < 0 ∨ (ls.length : Int) ≤ o.at_) := by have := of_decide_eq_false h; have := HR3.out.ln; show _ ∨ _; omega
    have HNO : Hid (∀ e w', AtP ls o.at_ w3 e w' → e = .returned (.tuple #[.agg #[.int .i64 0, .slice none 0 0], .bool false]) ∧ Below w3.heap.size w3 w') := fun e w' hs => at_no hs HOUT.out
    go_wp2_with fail
    refine HX.out.mono ?_
    rintro e w4 ht
    obtain ⟨rfl, y⟩ := HNO.out _ _ ht
    obtain ⟨w5, hw5⟩ : ∃ w5, w5 = w4.alloc (.cells #[.int .i64 0, .slice none 0 0] 34) := ⟨_, rfl⟩
    have HE5 : Hid (Below w3.heap.size w3 w5) := by rw [hw5]; exact y.alloc y.size _
    have HBX : Hid (Blk w5 w4.heap.size #[.int .i64 0, .slice none 0 0] 34) := by rw [hw5]; exact Blk.new _ _ _
    have HQ3 : Hid (q < w3.heap.size ∧ w3.heap.size ≤ w4.heap.size) := ⟨HB3.out.lt, y.size⟩
    clear y ht HX HNO
    go_upto_region 29 with fail
    rw [← hw5]
    clear hw5 c0 c1 c2 c3 c4
    have HR5 : Hid (RunA w p n v ua uc ls us w5) := HR3.out.go HE5.out
    have HB5 : Hid (Blk w5 q #[.int .i64 o.k, .int .i64 o.at_, .int .i64 o.i, .slice o.bo o.bn o.bc, .int .u8 (o.bt.toNat : Int)] 30) := HB3.out.of (HE5.out.block _ HB3.out.lt)
    generalize w4.heap.size = b at *
    have c0 : w5.cell? ⟨q, 0, none⟩ = some (.int .i64 1) := by rw [← HK.out]; exact HB5.out.cell 0
    have c1 : w5.cell? ⟨q, 1, none⟩ = some (.int .i64 o.at_) := HB5.out.cell 1
    have z0 : w5.cell? ⟨b, 0, none⟩ = some (.int .i64 0) := HBX.out.cell 0
    have z1 : w5.cell? ⟨b, 1, none⟩ = some (.slice none 0 0) := HBX.out.cell 1
    have HX : Hid (Calls _ _ _ _ _) := take_any p p v ls o.at_ w5 HR5.out.x.net HWF.out.1
    have HTN : Hid (∀ e w', TakeP p p v ls o.at_ w5 e w' → e = .returned (.tuple #[.agg #[.int .i64 0, .slice none 0 0], .bool false]) ∧ Below w5.heap.size w5 w') := fun e w' hs => take_no hs HOUT.out
    go_wp2_with fail
    refine HX.out.mono ?_
    rintro e w6 ht
    obtain ⟨rfl, y⟩ := HTN.out _ _ ht
    have HR6 : Hid (RunA w p n v ua uc ls us w6) := HR5.out.go y
    have HB6 : Hid (Blk w6 b #[.int .i64 0, .slice none 0 0] 34) := HBX.out.of (y.block _ HBX.out.lt)
    clear y ht HX HTN c0 c1 z0 z1
    have y0 : w6.cell? ⟨b, 0, none⟩ = some (.int .i64 0) := HB6.out.cell 0
    have y1 : w6.cell? ⟨b, 1, none⟩ = some (.slice none 0 0) := HB6.out.cell 1
    have f0 := HB6.out.frozen 0
    have f1 := HB6.out.frozen 1
    have hbx : Blk ((w6.setCell ⟨b, 0, none⟩ (.int .i64 0)).setCell ⟨b, 1, none⟩ (.slice none 0 0)) b #[.int .i64 0, .slice none 0 0] 34 := by
      have := (HB6.out.set 0 (.int .i64 0)).set 1 (.slice none 0 0)
      simpa using this
    have HR7 : Hid (RunA w p n v ua uc ls us ((w6.setCell ⟨b, 0, none⟩ (.int .i64 0)).setCell ⟨b, 1, none⟩ (.slice none 0 0))) := HR6.out.off HWP.out (Chg.setCell (S := fun i => i = b) (Chg.setCell (S := fun i => i = b) (Chg.refl _ _) ⟨b, 0, none⟩ (fun _ => rfl) _) ⟨b, 1, none⟩ (fun _ => rfl) _) (fun i hi => by
      subst hi
      have h3 := HQ3.out
      refine ⟨by have := HQP.out.1; omega, fun h => ?_, fun h => ?_⟩
      · have := HQP.out.2.1 _ h; omega
      · have := HQP.out.2.2 _ h; omega)
    have HBX7 : Hid (Blk _ b _ _) := hbx
    clear hbx HR5 HR6 HB5 HBX HB6
    go_upto_region 31 with fail
    clear y0 y1 f0 f1
    generalize (w6.setCell ⟨b, 0, none⟩ (.int .i64 0)).setCell ⟨b, 1, none⟩ (.slice none 0 0) = w7 at *
    have z0 : w7.cell? ⟨b, 0, none⟩ = some (.int .i64 0) := HBX7.out.cell 0
    have z1 : w7.cell? ⟨b, 1, none⟩ = some (.slice none 0 0) := HBX7.out.cell 1
    have HX : Hid (Calls _ _ _ _ _) := len_any p p v ls w7 HR7.out.x.net
    rw [HR7.out.ln] at HX
    go_wp2_with fail
    refine HX.out.mono ?_
    rintro e wz ⟨rfl, hw⟩
    rw [hw]
    clear hw wz HX
    go_wp2_with fail
    refine ⟨⟨k + 1, n, v, _, uc, ls, us, ⟨rfl, rfl, rfl, rfl, rfl, rfl, by go_num⟩, by omega, by omega, by omega, HWP.out, HR7.out⟩, ?_⟩
    simp [Rmu, intOf]; omega
  · have h5 := of_decide_eq_true h
    have h6 := of_decide_eq_true ha
    obtain ⟨j, hj⟩ : ∃ j : Nat, o.at_ = (j : Int) := ⟨o.at_.toNat, by omega⟩
    rw [hj] at h h5 h6 ha HX c1
    have HJ : Hid (o.at_ = (j : Int)) := hj
    have hjn : j < n := by omega
    obtain ⟨g, x, y, hua, hx, hy, hd, hb⟩ := HR3.out.own_at hjn
    subst hua
    have HXX : Hid (ls[j]? = some x ∧ x.dst = y.dst ∧ x.bs = y.bs) := ⟨hx, hd, hb⟩
    have HXY : Hid (us[j]? = some y) := hy
    have hyn : y.n = y.bs.length := (HR3.out.x.own.el y (List.mem_of_getElem? hy)).src.at.1
    have HYN : Hid (y.n = y.bs.length) := hyn
    have HYL : Hid (y.bs.length ≤ 200) := by
      have := (HR3.out.x.net.el x (List.mem_of_getElem? hx)).2.1
      rw [hb] at this
      exact this
    have hy63 : y.n ≤ 200 := by have := HYL.out; omega
    clear hx hy hd hb hyn hj
    have hjl : (j : Int) < (n : Int) := by omega
    clear h5 h6
    go_wp2_with fail
    refine HX.out.mono ?_
    rintro e w4 ht
    obtain ⟨a3, k3, rfl, hO, hb⟩ := at_ok (i := j) ht HXX.out.1
    rw [HXX.out.2.1, HXX.out.2.2, ← HYN.out]
    obtain ⟨w5, hw5⟩ : ∃ w5, w5 = w4.alloc (.cells #[.int .i64 y.dst, .slice a3 y.n k3] 34) := ⟨_, rfl⟩
    have HE5 : Hid (Below w3.heap.size w3 w5) := by rw [hw5]; exact hb.alloc hb.size _
    have HB0 : Hid (Blk w5 w4.heap.size #[.int .i64 y.dst, .slice a3 y.n k3] 34) := by rw [hw5]; exact Blk.new _ _ _
    have HQ3 : Hid (q < w3.heap.size ∧ w3.heap.size ≤ w4.heap.size) := ⟨HB3.out.lt, hb.size⟩
    clear hO hb ht HX
    go_upto_region 29 with fail
    rw [← hw5]
    clear hw5 c0 c1 c2 c3 c4
    have HR5 : Hid (RunA w p n v (some ⟨g, 0, none⟩) uc ls us w5) := HR3.out.go HE5.out
    have HBQ : Hid (Blk w5 q #[.int .i64 o.k, .int .i64 o.at_, .int .i64 o.i, .slice o.bo o.bn o.bc, .int .u8 (o.bt.toNat : Int)] 30) := HB3.out.of (HE5.out.block _ HB3.out.lt)
    generalize w4.heap.size = b at *
    have c0 : w5.cell? ⟨q, 0, none⟩ = some (.int .i64 1) := by rw [← HK.out]; exact HBQ.out.cell 0
    have c1 : w5.cell? ⟨q, 1, none⟩ = some (.int .i64 (j : Int)) := by rw [← HJ.out]; exact HBQ.out.cell 1
    have HX : Hid (Calls _ _ _ _ _) := take_any p p v ls (j : Int) w5 HR5.out.x.net (by rw [← HJ.out]; exact HWF.out.1)
    go_wp2_with fail
    refine HX.out.mono ?_
    rintro e w6 ht
    obtain ⟨a4, k4, rfl, hO, v6, hN, hC, hF⟩ := take_ok (i := j) ht HXX.out.1
    rw [HXX.out.2.1, HXX.out.2.2, ← HYN.out]
    rw [HXX.out.2.2, ← HYN.out] at hO
    have hbl := HB0.out.lt
    have hwp := HWP.out
    have hpq := HQP.out.1
    have hq3 := HQ3.out
    have hX6 : RunX w6 p p v6 (ls.eraseIdx j) (.slice (some ⟨g, 0, none⟩) n uc) us := HR5.out.x.turnN hN hC (fun i hi => by
      rcases hi with e | e
      · exact .inl e
      · exact .inr (.inl e)) (fun i hi => .inl (hF i hi))
    have hBQ6 : Blk w6 q #[.int .i64 o.k, .int .i64 o.at_, .int .i64 o.i, .slice o.bo o.bn o.bc, .int .u8 (o.bt.toNat : Int)] 30 := HBQ.out.of (hC.block q HBQ.out.lt (fun e => by
      rcases e with e | e
      · omega
      · have := HQP.out.2.1 q (.inr (.inl e)); omega))
    have hB6 : Blk w6 b #[.int .i64 y.dst, .slice a3 y.n k3] 34 := HB0.out.of (NetI.after HR3.out.x.net hC b hq3.2 hbl)
    have HMF : Hid (∀ i, (Value.slice a4 y.n k4).ownBlock = some i → b < i) := fun i hi => by have := (World.ownsRow.lt hO i hi).1; omega
    have hY6 : Below w.heap.size w w6 := HR5.out.below.trans ((HR5.out.x.net.base_below hC).mono hwp)
    have y0 : w6.cell? ⟨b, 0, none⟩ = some (.int .i64 y.dst) := hB6.cell 0
    have y1 : w6.cell? ⟨b, 1, none⟩ = some (.slice a3 y.n k3) := hB6.cell 1
    have f0 := hB6.frozen 0
    have f1 := hB6.frozen 1
    have HB7 : Hid (Blk ((w6.setCell ⟨b, 0, none⟩ (.int .i64 y.dst)).setCell ⟨b, 1, none⟩ (.slice a4 y.n k4)) b #[.int .i64 y.dst, .slice a4 y.n k4] 34) := by
      show Blk _ _ _ _
      have := (hB6.set 0 (.int .i64 y.dst)).set 1 (.slice a4 y.n k4)
      simpa using this
    have HX7 : Hid (RunX ((w6.setCell ⟨b, 0, none⟩ (.int .i64 y.dst)).setCell ⟨b, 1, none⟩ (.slice a4 y.n k4)) p p v6 (ls.eraseIdx j) (.slice (some ⟨g, 0, none⟩) n uc) us) := hX6.chg (S := fun i => i = b) (Chg.setCell (S := fun i => i = b) (Chg.setCell (S := fun i => i = b) (Chg.refl _ _) ⟨b, 0, none⟩ (fun _ => rfl) _) ⟨b, 1, none⟩ (fun _ => rfl) _) (fun i hi hs => by
      have := HQP.out.2.1 i (hF i hi); omega) (fun i hi hs => by
      have := HQP.out.2.2 i hi; omega)
    have HM7 : Hid (Own ((w6.setCell ⟨b, 0, none⟩ (.int .i64 y.dst)).setCell ⟨b, 1, none⟩ (.slice a4 y.n k4)) w3.heap.size (.slice a4 y.n k4) y.bs) := Own.mono (owns_kept hO (fun i hi => by
      have := HMF.out i hi
      rw [Below.heap_setCell _ _ _ _ (by show i ≠ b; omega), Below.heap_setCell _ _ _ _ (by show i ≠ b; omega)])) (by omega)
    have HBQ7 : Hid (Blk ((w6.setCell ⟨b, 0, none⟩ (.int .i64 y.dst)).setCell ⟨b, 1, none⟩ (.slice a4 y.n k4)) q #[.int .i64 o.k, .int .i64 o.at_, .int .i64 o.i, .slice o.bo o.bn o.bc, .int .u8 (o.bt.toNat : Int)] 30) := (hBQ6.setOther 0 _ (show q ≠ b by omega)).setOther 1 _ (show q ≠ b by omega)
    have HY7 : Hid (Below w.heap.size w ((w6.setCell ⟨b, 0, none⟩ (.int .i64 y.dst)).setCell ⟨b, 1, none⟩ (.slice a4 y.n k4))) := (hY6.setCell (show w.heap.size ≤ b by omega) _).setCell (show w.heap.size ≤ b by omega) _
    have HUL : Hid (us.length = n ∧ ls.map LetV.q = us.map LetV.q) := ⟨HR3.out.len, HR3.out.q⟩
    have HFF : Hid (∀ i, FP p v6 (ls.eraseIdx j) i → i < q) := fun i hi => HQP.out.2.1 i (hF i hi)
    have HFU : Hid (∀ i, FL (.slice (some ⟨g, 0, none⟩) n uc) us i → i < q) := HQP.out.2.2
    have HPQ : Hid (p < q ∧ q < b) := by show _ ∧ _; omega
    clear ht hO hN hC hF HX hX6 hBQ6 hB6 hY6 HR5 HBQ HB0 HE5 c0 c1 hbl hwp hpq hq3 HR3 HB3 HS3 HQP
    go_upto_region 31 with fail
    clear y0 y1 f0 f1
    generalize ((w6.setCell ⟨b, 0, none⟩ (.int .i64 y.dst)).setCell ⟨b, 1, none⟩ (.slice a4 y.n k4)) = w7 at *
    have HL7 : Hid (LetI w7 p (.slice (some ⟨g, 0, none⟩) n uc) us) := HX7.out.own
    have HB0 : Hid (Blk w7 b #[.int .i64 y.dst, .slice a4 y.n k4] 34) := HB7.out
    have HM0 : Hid (Own w7 w3.heap.size (.slice a4 y.n k4) y.bs) := HM7.out
    have HBQ : Hid (Blk w7 q #[.int .i64 o.k, .int .i64 o.at_, .int .i64 o.i, .slice o.bo o.bn o.bc, .int .u8 (o.bt.toNat : Int)] 30) := HBQ7.out
    have c0 : w7.cell? ⟨q, 0, none⟩ = some (.int .i64 1) := by rw [← HK.out]; exact HBQ.out.cell 0
    have c1 : w7.cell? ⟨q, 1, none⟩ = some (.int .i64 (j : Int)) := by rw [← HJ.out]; exact HBQ.out.cell 1
    have z0 : w7.cell? ⟨b, 0, none⟩ = some (.int .i64 y.dst) := HB0.out.cell 0
    have z1 : w7.cell? ⟨b, 1, none⟩ = some (.slice a4 y.n k4) := HB0.out.cell 1
    go_upto_region 34 with fail
    clear z0 z1 c0 c1
    refine wp_region_ext (by kernel_rfl) ?_
    haveI nA := cls_ext w7.drew
    have z0 := cellX (W0 := w7.drew) (show w7.drew.cell? ⟨b, 0, none⟩ = some _ from HB0.out.cell 0)
    have z1 := cellX (W0 := w7.drew) (show w7.drew.cell? ⟨b, 1, none⟩ = some _ from HB0.out.cell 1)
    have x1 := cellX (W0 := w7.drew) (show w7.drew.cell? ⟨q, 1, none⟩ = some (.int .i64 (j : Int)) by rw [← HJ.out]; exact HBQ.out.cell 1)
    have r0 := cellX (W0 := w7.drew) (show w7.drew.cell? ⟨g, j * 2, none⟩ = some _ from (HL7.out.cell HXY.out).1)
    have r1 := cellX (W0 := w7.drew) (show w7.drew.cell? ⟨g, j * 2 + 1, none⟩ = some _ from (HL7.out.cell HXY.out).2)
    have u1 := Src.strE (W0 := w7.drew) (HM0.out.src.below (Below.drew (Below.refl _ _)))
    have u2 := Src.strE (W0 := w7.drew) ((HL7.out.el y (List.mem_of_getElem? HXY.out)).src.below (Below.drew (Below.refl _ _)))
    unfold LetV.v at u2
    refine wpAnyH_seg (by kernel_rfl) (fun _ _ _ h => h) [0, 1, 2, 3, 4, 5, 6, 7, 8, 9, 10, 11, 12, 13, 14, 15, 16, 17, 18, 19, 20, 21] 0 _ _ _ (Ext.refl _) (by kernel_rfl) ?_
    simp only [opsAt, List.getElem?_toArray, List.getElem?_cons_zero, List.getElem?_cons_succ, List.cons_append, List.nil_append]
    repeat (go_big_quiet_step (fail))
    refine wpQuiet_nil ?_
    clear nA z0 z1 x1 r0 r1 u1 u2
    refine wpAnyH_done (by kernel_rfl) (NoPanic.normal ?_) 0
    have HM : Hid (Own w7.drew w3.heap.size (.slice a4 y.n k4) y.bs) := HM0.out.below (Below.drew (Below.refl _ _))
    have HX8 : Hid (RunX w7.drew p p v6 (ls.eraseIdx j) (.slice (some ⟨g, 0, none⟩) n uc) us) := HX7.out.below (Below.drew (Below.refl _ _))
    have HBQ8 : Hid (Blk w7.drew q #[.int .i64 o.k, .int .i64 o.at_, .int .i64 o.i, .slice o.bo o.bn o.bc, .int .u8 (o.bt.toNat : Int)] 30) := HBQ.out
    have HY8 : Hid (Below w.heap.size w w7.drew) := Below.drew HY7.out
    have HBX : Hid (∀ W, Chg (fun i => (Value.slice a4 y.n k4).ownBlock = some i) w7.drew W → Blk W b #[.int .i64 y.dst, .slice a4 y.n k4] 34) := fun W hW => Blk.chg HB0.out.drew hW (fun e => by have := HMF.out b e; omega)
    have z1 : w7.drew.cell? ⟨b, 1, none⟩ = some (.slice a4 y.n k4) := HB0.out.cell 1
    clear HB0 HM0 HM7 HX7 HBQ HBQ7 HB7 HY7 HL7
    generalize w7.drew = w8 at *
    go_wp2_with fail
    go_loopw [171] (fun i wr => ∃ (m : Nat) (l' : List UInt8), i = .int .i64 m ∧ m ≤ y.n ∧ l'.length = y.n ∧ Own wr w3.heap.size (.slice a4 y.n k4) l' ∧ Chg (fun i => (Value.slice a4 y.n k4).ownBlock = some i) w8 wr) (fun i _ => y.n - (intOf i).toNat)
    case atStart => exact ⟨0, y.bs, rfl, Nat.zero_le _, HYN.out.symm, HM.out, Chg.refl _ _⟩
    case round =>
      obtain ⟨m, l', rfl, hjl, hll, hown, hchg⟩ := hrel
      by_cases hlt : m < y.n
      · obtain ⟨g4, cap4, cur4, hv4, hbk4, hic4, hc41, hc42, ⟨ob, hob, kb⟩, hset⟩ := own_set2 hown (i := m) (by omega)
        have hsl : Chg (fun i => (Value.slice a4 y.n k4).ownBlock = some i) w8 (wr.setCell ⟨g4, m, none⟩ (.int .u8 ((ob ^^^ 255).toNat : Int))) := hchg.setCell ⟨g4, m, none⟩ (fun _ => by rw [hv4]; rfl) _
        have HSL : Hid (Chg _ w8 _) := hsl
        have HSET : Hid (Own (wr.setCell ⟨g4, m, none⟩ (.int .u8 ((ob ^^^ 255).toNat : Int))) w3.heap.size (.slice a4 y.n k4) (l'.set m (ob ^^^ 255))) := hset _
        have HLL : Hid (l'.length = y.n) := hll
        have hfz := hbk4.frozen m
        have z1 : wr.cell? ⟨b, 1, none⟩ = some (.slice a4 y.n k4) := (HBX.out wr hchg).cell 1
        have hx8 : bits .xor .u8 (ob.toNat : Int) 255 = ((ob ^^^ 255).toNat : Int) := xor_u8 ob 255
        simp only [Value.slice.injEq] at hv4
        obtain ⟨rfl, _, _⟩ := hv4
        have hjn : (m : Int) < (y.n : Int) := by omega
        clear hown hchg hll hsl hset hob hbk4 hic4 hc41 hc42
        go_wp2
        go_roundw
        case rel => exact ⟨m + 1, _, by go_num, by omega, by rw [List.length_set]; exact HLL.out, HSET.out, HSL.out⟩
        case measure => simp [intOf]; omega
      · have HCL : Hid (Chg (fun i => (Value.slice a4 y.n k4).ownBlock = some i) w8 wr) := hchg
        clear hown hchg hll
        have hpq := HPQ.out
        have HX9 : Hid (RunX wr p p v6 (ls.eraseIdx j) (.slice (some ⟨g, 0, none⟩) n uc) us) := HX8.out.chg HCL.out (fun i hi hs => by
          have h1 := HMF.out i hs
          have := HFF.out i hi
          omega) (fun i hi hs => by
          have h1 := HMF.out i hs
          have := HFU.out i hi
          omega)
        have HB9 : Hid (Blk wr q #[.int .i64 o.k, .int .i64 o.at_, .int .i64 o.i, .slice o.bo o.bn o.bc, .int .u8 (o.bt.toNat : Int)] 30) := HBQ8.out.of (HCL.out.block q HBQ8.out.lt (fun e => by have := HMF.out q e; omega))
        have HY9 : Hid (Below w.heap.size w wr) := HY8.out.trans (Chg.below HCL.out (by have := HBQ8.out.lt; have := HWP.out; omega) (fun i hi => by have := HMF.out i hi; have := HWP.out; omega))
        clear HCL HX8 HBQ8 HBX HM HMF HY8 hpq
        have c0 : wr.cell? ⟨q, 0, none⟩ = some (.int .i64 1) := by rw [← HK.out]; exact HB9.out.cell 0
        go_upto_region 42 with fail
        clear c0
        refine wp_region_seg (fun W => Blk W q #[.int .i64 o.k, .int .i64 o.at_, .int .i64 o.i, .slice o.bo o.bn o.bc, .int .u8 (o.bt.toNat : Int)] 30) (by kernel_rfl) ?_
        have HX7 : Hid (RunX wr.drew p p v6 (ls.eraseIdx j) (.slice (some ⟨g, 0, none⟩) n uc) us) := HX9.out.below (Below.drew (Below.refl _ _))
        have HB7 : Hid (Blk wr.drew q #[.int .i64 o.k, .int .i64 o.at_, .int .i64 o.i, .slice o.bo o.bn o.bc, .int .u8 (o.bt.toNat : Int)] 30) := HB9.out
        have HY7 : Hid (Below w.heap.size w wr.drew) := Below.drew HY9.out
        clear HX9 HB9 HY9
        generalize wr.drew = w7 at *
        have hb7 : Blk w7 q #[.int .i64 o.k, .int .i64 o.at_, .int .i64 o.i, .slice o.bo o.bn o.bc, .int .u8 (o.bt.toNat : Int)] 30 := HB7.out
        haveI nA : Nonempty (Cls (fun W => Blk W q #[.int .i64 o.k, .int .i64 o.at_, .int .i64 o.i, .slice o.bo o.bn o.bc, .int .u8 (o.bt.toNat : Int)] 30)) := ⟨⟨w7, hb7⟩⟩
        have x1 : ∀ s : Cls (fun W => Blk W q #[.int .i64 o.k, .int .i64 o.at_, .int .i64 o.i, .slice o.bo o.bn o.bc, .int .u8 (o.bt.toNat : Int)] 30), s.wd.cell? ⟨q, 1, none⟩ = some (.int .i64 (j : Int)) := fun s => by rw [← HJ.out]; exact s.ok.cell 1
        have hju : j ≤ uc := by omega
        have hnu : n ≤ uc := by omega
        have hjn1 : j + 1 ≤ n := by omega
        have hw1 : wrap64 ((j : Int) + 1) = ((j + 1 : Nat) : Int) := by unfold wrap64; omega
        have hw3 : j + 1 ≤ uc := by omega
        obtain ⟨ad9, hif, htc⟩ : ∃ ad9 : Addr, (if uc = j + 1 then some (⟨g, 0, none⟩ : Addr) else some ⟨g, (j + 1) * 2, none⟩) = some ad9 ∧ ∀ W, LetI W p (.slice (some ⟨g, 0, none⟩) n uc) us → ∀ i u, ((us.drop (j + 1)).map LetV.cs).flatten[i]? = some u → W.cell? (ad9.add i) = some u := by
          have hul := HUL.out.1
          by_cases e : uc = j + 1
          · refine ⟨⟨g, 0, none⟩, if_pos e, fun W hW i u hu => ?_⟩
            rw [List.drop_eq_nil_of_le (by omega)] at hu
            simp at hu
          · exact ⟨⟨g, (j + 1) * 2, none⟩, if_neg e, fun W hW => hW.tailCells (j + 1) (by omega)⟩
        have HIF : Hid _ := hif
        have HTC : Hid (∀ W, LetI W p (.slice (some ⟨g, 0, none⟩) n uc) us → ∀ i u, ((us.drop (j + 1)).map LetV.cs).flatten[i]? = some u → W.cell? (ad9.add i) = some u) := htc
        clear hif htc
        refine wpAnyH_seg (by kernel_rfl) (fun _ _ _ h => h) [1, 2, 3, 4, 6, 7, 8, 9, 10] 4 _ _ _ hb7 (by kernel_rfl) ?_
        simp only [opsAt, List.getElem?_toArray, List.getElem?_cons_zero, List.getElem?_cons_succ, List.cons_append, List.nil_append]
        repeat (go_big_quiet_step (fail))
        refine wpQuiet_nil ?_
        rw [HIF.out]
        clear x1 hb7 hw1
        refine wpAnyH_all (rs := [0]) (fuel := 3) (by kernel_rfl) (by simp) fun jj hjj => ?_
        obtain rfl : jj = 0 := by simpa using hjj
        clear hjj
        refine wpOp_value 185 rfl (by kernel_rfl) rfl (exec_build0L rfl) ?_
        refine ⟨Blk.alloc HB7.out _, ?_⟩
        simp only [Act.put, List.setIfInBounds_toArray, List.set_cons_succ, List.set_cons_zero]
        obtain ⟨a8, c8, w8, hr, ho8, hg8⟩ := run_appL (w7.alloc (.cells #[] 34)) 25 w7.heap.size (.slice (some ⟨w7.heap.size, 0, none⟩) 0 0) [] (us.take j) ⟨g, 0, none⟩ j uc (World.ownsRow_made w7 (e := 34) (size := 2) #[] 0 (Nat.le_refl _) (Nat.zero_le _) rfl) (by rw [List.length_take, HUL.out.1]; omega) ((HX7.out.own.below (below_allocR _)).headCells j) (by simp; omega) (by simp)
        simp only [List.nil_append] at hr ho8
        have hl8 : (us.take j).length = j := by rw [List.length_take, HUL.out.1]; omega
        rw [hl8] at hr ho8
        have HR : Hid _ := hr
        have HO8 : Hid (w8.ownsRow w7.heap.size 34 2 (.slice a8 j c8) j ((us.take j).map LetV.cs).flatten) := ho8
        have HE8 : Hid (Below w7.heap.size w7 w8) := Below.grown (below_allocR _) hg8 (by simp) (fun k hk => by cases hk; exact Nat.le_refl _)
        have hb8 : Blk w8 q #[.int .i64 o.k, .int .i64 o.at_, .int .i64 o.i, .slice o.bo o.bn o.bc, .int .u8 (o.bt.toNat : Int)] 30 := HB7.out.of (HE8.out.block _ HB7.out.lt)
        clear hr ho8 hg8 hl8
        refine wpAnyH_all (rs := [5]) (fuel := 2) (by kernel_rfl) (by simp) fun jj hjj => ?_
        obtain rfl : jj = 5 := by simpa using hjj
        clear hjj
        refine wpOp_value 190 rfl (by kernel_rfl) rfl (exec_app rfl rfl rfl HR.out) ?_
        refine ⟨hb8, ?_⟩
        clear HR
        simp only [Act.put, List.setIfInBounds_toArray, List.set_cons_succ, List.set_cons_zero]
        have hl8 : (us.take j).length = j := by rw [List.length_take, HUL.out.1]; omega
        obtain ⟨a9, c9, w9, hr, ho9, hg9⟩ := run_appL w8 25 w7.heap.size (.slice a8 j c8) (us.take j) (us.drop (j + 1)) ad9 (n - (j + 1)) (uc - (j + 1)) (by rw [hl8]; exact HO8.out) (by rw [List.length_drop, HUL.out.1]) (HTC.out w8 (HX7.out.own.below HE8.out)) (by rw [hl8]; omega) HE8.out.size
        rw [← List.eraseIdx_eq_take_drop_succ] at hr ho9
        have hlen : (us.eraseIdx j).length = n - 1 := by rw [List.length_eraseIdx, if_pos (by rw [HUL.out.1]; omega), HUL.out.1]
        have hbw : Below w7.heap.size w7 w9 := Below.grown HE8.out hg9 HE8.out.size (fun k hk => (HO8.out.lt k hk).1)
        obtain ⟨hL, hF⟩ := LetI.again HX7.out.own (by have := HX7.out.net.blk.lt; omega) hbw ho9 (List.eraseIdx_sublist _ _)
        rw [hlen] at hr hL hF
        have HR : Hid _ := hr
        have hb9 : Blk w9 q #[.int .i64 o.k, .int .i64 o.at_, .int .i64 o.i, .slice o.bo o.bn o.bc, .int .u8 (o.bt.toNat : Int)] 30 := HB7.out.of (hbw.block _ HB7.out.lt)
        have HR9 : Hid (RunA w p (n - 1) v6 a9 c9 (ls.eraseIdx j) (us.eraseIdx j) w9) := ⟨HX7.out.turnL (S := fun _ => False) hL (Chg.of_below hbw (fun _ h e => by omega)) (fun i hi => hi.elim) hF, by
          rw [List.eraseIdx_eq_take_drop_succ, List.eraseIdx_eq_take_drop_succ, List.map_append, List.map_append, List.map_take, List.map_take, List.map_drop, List.map_drop, HUL.out.2], hlen, ext_trans HY7.out hbw⟩
        clear hr hL hF ho9 hg9 hlen hbw hl8
        refine wpAnyH_all (rs := [11]) (fuel := 1) (by kernel_rfl) (by simp) fun jj hjj => ?_
        obtain rfl : jj = 11 := by simpa using hjj
        clear hjj
        refine wpOp_value 196 rfl (by kernel_rfl) rfl (exec_app rfl rfl rfl HR.out) ?_
        refine ⟨hb9, ?_⟩
        clear HR
        simp only [Act.put, List.setIfInBounds_toArray, List.set_cons_succ, List.set_cons_zero]
        refine wpAnyH_seg (by kernel_rfl) (fun _ _ _ h => h) [12] 0 _ _ _ hb9 (by kernel_rfl) ?_
        simp only [opsAt, List.getElem?_toArray, List.getElem?_cons_zero, List.getElem?_cons_succ, List.cons_append, List.nil_append]
        repeat (go_big_quiet_step (fail))
        refine wpQuiet_nil ?_
        clear nA hb8 hb9
        refine wpAnyH_done (by kernel_rfl) (NoPanic.normal ?_) 0
        clear HX7 HB7 HY7 HO8 HE8 HUL HXY HXX
        have HX : Hid (Calls _ _ _ _ _) := len_any p p v6 (ls.eraseIdx j) w9 HR9.out.x.net
        rw [HR9.out.ln] at HX
        go_wp2_with fail
        refine HX.out.mono ?_
        rintro e wz ⟨rfl, hw⟩
        rw [hw]
        clear hw wz HX
        go_wp2_with fail
        refine ⟨⟨k + 1, n - 1, v6, _, _, _, _, ⟨rfl, rfl, rfl, rfl, rfl, rfl, by go_num⟩, by omega, by omega, by omega, HWP.out, HR9.out⟩, ?_⟩
        simp [Rmu, intOf]; omega
end Go.Proofs.Ytcemecclpofhbaa

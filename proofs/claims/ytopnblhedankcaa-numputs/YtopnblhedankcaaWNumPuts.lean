/- NumPuts: the walk of the law's Go text. -/
import Derived.Test.YtopnblhedankcaaStep
namespace Go.Proofs.Ytopnblhedankcaa
open Go.ChangeShapes Go.WideShapes Go.ChangeAt Go.RowKit

theorem far_of {w : World} {B g : Nat} {v : Value} {l : List UInt8} (h : Own w B v l) (hg : w.heap.size ≤ g) : v.ownBlock ≠ some g := fun e => by
  have := (h.lt g e).2; omega
theorem far_at {w w3 : World} {B g : Nat} {v v' : Value} {l : List UInt8} (h : Own w B v l) (hg : w.heap.size ≤ g) (hlt : g < w3.heap.size) (hat : v'.ownBlock = v.ownBlock ∨ v'.ownBlock = some w3.heap.size) : v'.ownBlock ≠ some g := fun e => by
  rcases hat with h1 | h1
  · exact far_of h hg (h1.symm.trans e)
  · rw [h1] at e; have := Option.some.inj e; omega

theorem cell_nx {w : World} {a : Addr} {i : Nat} {v : Value} (h : w.cell? (a.add (i + 1)) = some v) : w.cell? ⟨(a.add i).block, (a.add i).off + 1, none⟩ = some v := by
  unfold Addr.add at h ⊢
  rw [if_neg (by omega)] at h
  split
  · rename_i h0; subst h0; simpa using h
  · simpa [Nat.add_assoc] using h

theorem wf_i64 {n : Int} (h0 : 0 ≤ n) (h1 : n ≤ 9223372036854775807) : (Lit.int .i64 n).wf = true := by
  simp [Lit.wf, IntKind.min, IntKind.max, IntKind.signed, IntKind.bits]
  omega
theorem back_bytes (s : ByteArray) : (⟨s.data.toList.toArray⟩ : ByteArray) = s := by cases s; simp
theorem tid_neq_same (X Y : Nat) (W : World) : (binOp .neq 32 (.agg #[.int .u64 (X : Int), .int .i64 (Y : Int)]) (.agg #[.int .u64 (X : Int), .int .i64 (Y : Int)])).run Try.prog W = .ok (.bool false) W := by simp [go_sem]

def TidAt (k X Y : Nat) (x : World) : Prop := x.cell? ⟨k, 0, none⟩ = some (.int .u64 (X : Int)) ∧ x.cell? ⟨k, 1, none⟩ = some (.int .i64 (Y : Int))
theorem cell_grown {w w' : World} {row : Option Nat} {a : Addr} {v : Value} (h : w.cell? a = some v) (hg : w.grownBy w' row) (hne : row ≠ some a.block) : w'.cell? a = some v :=
  (World.cell?_of_block (hg.block a.block (cell_lt h) (fun e => hne e.symm))).trans h
/-- The first so many are transactions. -/
def GoodTo (tz : List (Int × Int)) (i : Nat) : Prop := ∀ j (h : j < tz.length), j < i → tz[j].1 ≤ 1099511627776 ∧ 0 ≤ tz[j].2 ∧ tz[j].2 < 64
theorem goodTo_succ {tz : List (Int × Int)} {i : Nat} (h : GoodTo tz i) (hi : i < tz.length) (hn : tz[i].1 ≤ 1099511627776 ∧ 0 ≤ tz[i].2 ∧ tz[i].2 < 64) : GoodTo tz (i + 1) := fun j hj hji => by
  rcases (show j < i ∨ j = i by omega) with h1 | rfl
  · exact h j hj h1
  · exact hn

set_option maxRecDepth 100000 in
set_option maxHeartbeats 16000000 in
theorem walk_NumPuts (na : Option Addr) (nl nc : Nat) (zs : List Int) (sa : Option Addr) (sl sc : Nat) (ss : List ByteArray) (ta : Option Addr) (tl tc : Nat) (tz : List (Int × Int)) (w : World)
    (hn : IsRow .u64 w na nl nc zs) (hs : IsStrs w sa sl sc ss) (ht : IsTids w ta tl tz) :
    Calls Try.prog 3 #[.slice na nl nc, .slice sa sl sc, .slice ta tl tc] w fun e w' => e = .returned (.bool true) ∧ Below w.heap.size w w' := by
  obtain ⟨ns, rfl, _, hnc, hns⟩ := isRow_nats hn
  obtain ⟨rfl, _, hsc, hsn, hss⟩ := hs
  obtain ⟨rfl, htc, htn, hts⟩ := ht
  unfold maxLen at hnc hsc htc
  have HN : Hid (_) := hns
  have HSS : Hid (_) := hss
  have HTS : Hid (_) := hts
  clear hn hns hss hts
  obtain ⟨ts, hts⟩ : ∃ ts : List (Nat × Nat), ts = tz.map fun p => (p.1.toNat, p.2.toNat) := ⟨_, rfl⟩
  have htl : ts.length = tz.length := by rw [hts]; simp
  have HT : Hid (ts = tz.map fun p => (p.1.toNat, p.2.toNat)) := hts
  clear hts
  by_cases hn20 : ns.length ≤ 20
  · by_cases hs20 : ss.length ≤ 20
    · by_cases ht20 : tz.length ≤ 20
      · go_enter Try.func3, Try.ntmps3
        go_wp2_with fail
        refine (head_any _).mono ?_
        rintro e w1 ⟨rfl, hb1⟩
        have hsz1 := hb1.size
        have HE1 : Hid (Ext w ((w1.alloc (.cells #[] 5)).alloc (.cells #[] 5))) := (Below.alloc (Below.alloc hb1 hsz1 _) (by simp; omega) _)
        have HO1 : Hid (Own ((w1.alloc (.cells #[] 5)).alloc (.cells #[] 5)) w.heap.size (.slice (some ⟨w1.heap.size + 1, 0, none⟩) 0 0) []) := by
          show Own _ _ _ _
          have := World.ownsRow_made (base := w.heap.size) (e := 5) (size := 1) (w1.alloc (.cells #[] 5)) #[] 0 (by simp; omega) (Nat.zero_le _) rfl
          simpa [Own, bv] using this
        have HS1 : Hid (Src ((w1.alloc (.cells #[] 5)).alloc (.cells #[] 5)) (.slice (some ⟨w1.heap.size, 0, none⟩) 0 0) []) := ⟨_, 0, rfl, Nat.le_refl _, Nat.zero_le _, fun h => (by cases h), fun ad _ j u hu => by simp [bv] at hu⟩
        clear hb1
        go_wp2_with fail
        go_loopw [7, 8, 41] (fun vb vw vi wr => ∃ (ao : Option Addr) (ca i : Nat), vb = .slice ao (c1 ns i).length ca ∧ vi = .int .i64 (i : Int) ∧ i ≤ ns.length ∧ Src wr (.slice ao (c1 ns i).length ca) (c1 ns i) ∧ Own wr w.heap.size vw (c1 ns i) ∧ (c1 ns i).length ≤ 10 * i ∧ Ext w wr) (fun _ _ vi _ => ns.length - (intOf vi).toNat)
        case atStart => exact ⟨_, 0, 0, by rw [c1_zero]; rfl, rfl, Nat.zero_le _, by rw [c1_zero]; exact HS1.out, by rw [c1_zero]; exact HO1.out, by rw [c1_zero]; exact Nat.le_refl _, HE1.out⟩
        case round =>
          obtain ⟨ao, ca, i, rfl, rfl, hi, hsrc, hown, hlen, hE⟩ := hrel
          have HS : Hid (Src wr (.slice ao (c1 ns i).length ca) (c1 ns i)) := hsrc
          have HO : Hid (Own wr w.heap.size _ (c1 ns i)) := hown
          have HE : Hid (Ext w wr) := hE
          clear hsrc hown hE HE1 HO1 HS1
          by_cases hlt : i < ns.length
          · obtain ⟨hN, ad, rfl, hcell⟩ := HN.out i hlt
            have k1 := (Below.cell HE.out (cell_lt hcell)).trans hcell
            have HM : Hid (c1 ns (i + 1) = join (c1 ns i) (enc ns[i])) := c1_succ ns i hlt
            have henc := enc_length ns[i]
            clear hcell
            generalize ns[i] = N at *
            generalize c1 ns i = L at *
            go_wp2_with fail
            refine (put_any ao L.length ca L N wr HS.out hN (by omega)).mono ?_
            rintro e w2 ⟨g2, q2, rfl, o2, x2⟩
            have O2 : Hid (Own w2 wr.heap.size (.slice (some ⟨g2, 0, none⟩) (join L (enc N)).length q2) (join L (enc N))) := o2
            have X2 : Hid (Ext wr w2) := x2
            clear o2 x2 k1
            go_wp2_with fail
            refine (lput_any N w2 hN).mono ?_
            rintro e w3 ⟨g3, q3, rfl, o3, x3⟩
            have hO3 := HO.out.below (X2.out.trans x3)
            have hS3 := o3.src
            have hsz3 := Below.size (HE.out.trans (X2.out.trans x3))
            have hB3 : Hid (Ext w w3) := HE.out.trans (X2.out.trans x3)
            have O3 : Hid (Own w3 wr.heap.size (.slice (some ⟨g2, 0, none⟩) (join L (enc N)).length q2) (join L (enc N))) := O2.out.below x3
            clear o3 x3
            go_wp2_with (first | (at_builtin; refine wpList_joinAt _ rfl _ _ rfl w.heap.size _ L (enc N) hO3 rfl g3 q3 hS3 rfl ?_ hsz3 ?_))
            · omega
            intro v4 w4 o4 hg4 _
            have S4 : Hid (Src w4 (.slice (some ⟨g2, 0, none⟩) (join L (enc N)).length q2) (join L (enc N))) := (O3.out.grown hg4 (far_of HO.out (O2.out.lt g2 rfl).1)).src
            have O4 : Hid (Own w4 w.heap.size v4 (join L (enc N))) := o4
            have E4 : Hid (Ext w w4) := Below.grown hB3.out hg4 hsz3 (fun k hk => (hO3.lt k hk).1)
            have JL : Hid ((join L (enc N)).length = L.length + (enc N).length) := join_length _ _
            clear o4 hg4 hO3 hS3 hB3 O3 O2 X2 HO HS
            go_wp2
            go_roundw
            case rel => exact ⟨some ⟨g2, 0, none⟩, q2, i + 1, by rw [HM.out], by go_num, by omega, by rw [HM.out]; exact S4.out, by rw [HM.out]; exact O4.out, by rw [HM.out, JL.out]; omega, E4.out⟩
            case measure => simp [intOf]; omega
          · have hin : i = ns.length := by omega
            subst hin
            have hS0 := HS.out
            have hO0 := HO.out
            rw [c1_all ns ss] at hS0 hO0 hlen
            rw [c1_all ns ss]
            have HS1 : Hid (Src wr (.slice ao (c2 ns ss 0).length ca) (c2 ns ss 0)) := hS0
            have HO1 : Hid (Own wr w.heap.size _ (c2 ns ss 0)) := hO0
            have HE1 : Hid (Ext w wr) := HE.out
            clear hS0 hO0 HS HO HE
            go_wp2_with fail
            go_loopw [7, 8, 55] (fun vb vw vi wr => ∃ (ao : Option Addr) (ca i : Nat), vb = .slice ao (c2 ns ss i).length ca ∧ vi = .int .i64 (i : Int) ∧ i ≤ ss.length ∧ Src wr (.slice ao (c2 ns ss i).length ca) (c2 ns ss i) ∧ Own wr w.heap.size vw (c2 ns ss i) ∧ (c2 ns ss i).length ≤ 200 + 210 * i ∧ Ext w wr) (fun _ _ vi _ => ss.length - (intOf vi).toNat)
            case atStart => exact ⟨_, _, 0, rfl, rfl, Nat.zero_le _, HS1.out, HO1.out, by omega, HE1.out⟩
            case round =>
              obtain ⟨ao, ca, i, rfl, rfl, hi, hsrc, hown, hlen2, hE⟩ := hrel
              have HS : Hid (Src wr (.slice ao (c2 ns ss i).length ca) (c2 ns ss i)) := hsrc
              have HO : Hid (Own wr w.heap.size _ (c2 ns ss i)) := hown
              have HE : Hid (Ext w wr) := hE
              clear hsrc hown hE HE1 HO1 HS1
              by_cases hlt : i < ss.length
              · obtain ⟨ad, rfl⟩ : ∃ ad, sa = some ad := by
                  cases sa with
                  | none => have := (hsn rfl).1; omega
                  | some ad => exact ⟨ad, rfl⟩
                obtain ⟨hcell, hsm⟩ := HSS.out ad rfl i hlt
                unfold maxLen at hsm
                have k1 := (Below.cell HE.out (cell_lt hcell)).trans hcell
                have HM : Hid (c2 ns ss (i + 1) = join (join (c2 ns ss i) (enc ss[i].size)) ss[i].data.toList) := c2_succ ns ss i hlt
                have henc := enc_length ss[i].size
                clear hcell
                generalize ss[i] = s at *
                generalize c2 ns ss i = L at *
                by_cases hs200 : s.size ≤ 200
                · go_wp2_with fail
                  refine (text_any ao L.length ca L s wr HS.out (by omega)).mono ?_
                  rintro e w2 ⟨g2, q2, rfl, o2, x2⟩
                  have O2 : Hid (Own w2 wr.heap.size (.slice (some ⟨g2, 0, none⟩) (join (join L (enc s.size)) s.data.toList).length q2) (join (join L (enc s.size)) s.data.toList)) := o2
                  have X2 : Hid (Ext wr w2) := x2
                  clear o2 x2 k1
                  go_wp2_with fail
                  refine (lput_any s.size w2 (by omega)).mono ?_
                  rintro e w3 ⟨g3, q3, rfl, o3, x3⟩
                  have hO3 := HO.out.below (X2.out.trans x3)
                  have hS3 := o3.src
                  have hsz3 := Below.size (HE.out.trans (X2.out.trans x3))
                  have hB3 : Hid (Ext w w3) := HE.out.trans (X2.out.trans x3)
                  have O3 : Hid (Own w3 wr.heap.size (.slice (some ⟨g2, 0, none⟩) (join (join L (enc s.size)) s.data.toList).length q2) (join (join L (enc s.size)) s.data.toList)) := O2.out.below x3
                  have JL : Hid ((join L (enc s.size)).length = L.length + (enc s.size).length) := join_length _ _
                  have JM : Hid ((join (join L (enc s.size)) s.data.toList).length = (join L (enc s.size)).length + s.data.toList.length) := join_length _ _
                  have SL : Hid (s.data.toList.length = s.size) := by show _ = _; rw [Array.length_toList]; rfl
                  clear o3 x3
                  go_wp2_with (first | (at_builtin; refine wpList_joinAt _ rfl _ _ rfl w.heap.size _ L (enc s.size) hO3 rfl g3 q3 hS3 rfl ?_ hsz3 ?_))
                  · omega
                  intro v4 w4 o4 hg4 hat4
                  have O4 : Hid (Own w4 wr.heap.size (.slice (some ⟨g2, 0, none⟩) (join (join L (enc s.size)) s.data.toList).length q2) (join (join L (enc s.size)) s.data.toList)) := O3.out.grown hg4 (far_of HO.out (O2.out.lt g2 rfl).1)
                  have F4 : Hid (v4.ownBlock ≠ some g2) := far_at HO.out (O2.out.lt g2 rfl).1 (O3.out.lt g2 rfl).2 hat4
                  have E4 : Hid (Ext w w4) := Below.grown hB3.out hg4 hsz3 (fun k hk => (hO3.lt k hk).1)
                  have hsz4 := Below.size E4.out
                  clear hg4 hat4 hO3 hS3 hB3 O3 O2 X2 HO HS
                  go_wp2_with (first | (at_builtin; refine wpList_text _ rfl _ _ rfl w.heap.size _ _ s o4 rfl rfl ?_ hsz4 ?_))
                  · rw [JL.out]; omega
                  intro v5 w5 o5 hg5
                  have S5 : Hid (Src w5 (.slice (some ⟨g2, 0, none⟩) (join (join L (enc s.size)) s.data.toList).length q2) (join (join L (enc s.size)) s.data.toList)) := (O4.out.grown hg5 F4.out).src
                  have O5 : Hid (Own w5 w.heap.size v5 (join (join L (enc s.size)) s.data.toList)) := o5
                  have E5 : Hid (Ext w w5) := Below.grown E4.out hg5 hsz4 (fun k hk => (o4.lt k hk).1)
                  clear o5 hg5 o4 O4 F4 E4
                  go_wp2
                  go_roundw
                  case rel => exact ⟨some ⟨g2, 0, none⟩, q2, i + 1, by rw [HM.out], by go_num, by omega, by rw [HM.out]; exact S5.out, by rw [HM.out]; exact O5.out, by rw [HM.out, JM.out, JL.out, SL.out]; omega, E5.out⟩
                  case measure => simp [intOf]; omega
                · go_wp2_with fail
                  go_ret
                  exact ⟨rfl, HE.out⟩
              · have hin : i = ss.length := by omega
                subst hin
                have hS0 := HS.out
                have hO0 := HO.out
                rw [c2_all ns ss ts] at hS0 hO0 hlen2
                rw [c2_all ns ss ts]
                have HS1 : Hid (Src wr (.slice ao (c3 ns ss ts 0).length ca) (c3 ns ss ts 0)) := hS0
                have HO1 : Hid (Own wr w.heap.size _ (c3 ns ss ts 0)) := hO0
                have HE1 : Hid (Ext w wr) := HE.out
                clear hS0 hO0 HS HO HE
                go_wp2_with fail
                go_loopw [7, 8, 76] (fun vb vw vi wr => ∃ (ao : Option Addr) (ca i : Nat), vb = .slice ao (c3 ns ss ts i).length ca ∧ vi = .int .i64 (i : Int) ∧ i ≤ tz.length ∧ Src wr (.slice ao (c3 ns ss ts i).length ca) (c3 ns ss ts i) ∧ Own wr w.heap.size vw (c3 ns ss ts i) ∧ (c3 ns ss ts i).length ≤ 4400 + 20 * i ∧ GoodTo tz i ∧ Ext w wr) (fun _ _ vi _ => tz.length - (intOf vi).toNat)
                case atStart => exact ⟨_, _, 0, rfl, rfl, Nat.zero_le _, HS1.out, HO1.out, by omega, fun j h hj => by omega, HE1.out⟩
                case round =>
                  obtain ⟨ao, ca, i, rfl, rfl, hi, hsrc, hown, hlen3, hgood, hE⟩ := hrel
                  have HS : Hid (Src wr (.slice ao (c3 ns ss ts i).length ca) (c3 ns ss ts i)) := hsrc
                  have HO : Hid (Own wr w.heap.size _ (c3 ns ss ts i)) := hown
                  have HE : Hid (Ext w wr) := hE
                  have HV : Hid (GoodTo tz i) := hgood
                  clear hsrc hown hE HE1 HO1 HS1 hgood
                  by_cases hlt : i < tz.length
                  · obtain ⟨ad, rfl⟩ : ∃ ad, ta = some ad := by
                      cases ta with
                      | none => have := htn rfl; omega
                      | some ad => exact ⟨ad, rfl⟩
                    obtain ⟨hc1, hc2, wx, wy⟩ := HTS.out ad rfl i hlt
                    have bx := bounds_u64 wx
                    have by' := bounds_i64 wy
                    have k1 := (Below.cell HE.out (cell_lt hc1)).trans hc1
                    have k2 := cell_nx ((Below.cell HE.out (cell_lt hc2)).trans hc2)
                    have hti : ts[i]'(by omega) = (tz[i].1.toNat, tz[i].2.toNat) := by
                      have := HT.out
                      subst this
                      simp
                    have HM0 := c3_succ ns ss ts i (by omega)
                    rw [hti] at HM0
                    have HG : Hid (tz[i].1 ≤ 1099511627776 → 0 ≤ tz[i].2 → tz[i].2 < 64 → GoodTo tz (i + 1)) := fun h1 h2 h3 => goodTo_succ HV.out hlt ⟨h1, h2, h3⟩
                    clear hc1 hc2 wx wy hti
                    generalize tz[i].1 = x at *
                    generalize tz[i].2 = y at *
                    obtain ⟨X, rfl⟩ := Int.eq_ofNat_of_zero_le bx.1
                    have HM : Hid (c3 ns ss ts (i + 1) = join (join (c3 ns ss ts i) (enc X)) (enc y.toNat)) := HM0
                    clear HM0
                    generalize c3 ns ss ts i = L at *
                    have henc := enc_length X
                    by_cases hx40 : X ≤ 1099511627776
                    · by_cases hy0 : 0 ≤ y
                      · by_cases hy64 : y < 64
                        · obtain ⟨Y, rfl⟩ := Int.eq_ofNat_of_zero_le hy0
                          have HV2 : Hid (GoodTo tz (i + 1)) := HG.out (by omega) hy0 hy64
                          have HM : Hid (c3 ns ss ts (i + 1) = join (join L (enc X)) (enc Y)) := HM.out
                          have henc2 := enc_length Y
                          clear HG HV
                          have huns : uns (Y : Int) = Y := by unfold uns; omega
                          have hYw : IntKind.u64.wrap (Y : Int) = (Y : Int) := by rw [IntKind.wrap_u64]; omega
                          have hA : Ext wr (wr.alloc (.cells #[.int .u64 (X : Int), .int .i64 (Y : Int)] 32)) := (Below.refl _ _).alloc (Nat.le_refl _) _
                          have HA : Hid (Ext wr _) := hA
                          have hT := tid_any ao L.length ca L X (Y : Int) _ (HS.out.below hA) (by omega) (by omega)
                          rw [huns] at hT
                          have HTT : Hid (Calls _ _ _ _ _) := hT
                          have JL : Hid ((join L (enc X)).length = L.length + (enc X).length) := join_length _ _
                          have JM : Hid ((join (join L (enc X)) (enc Y)).length = (join L (enc X)).length + (enc Y).length) := join_length _ _
                          have SA : Hid ((wr.alloc (.cells #[.int .u64 (X : Int), .int .i64 (Y : Int)] 32)).cell? ⟨wr.heap.size, 0, none⟩ = some (.int .u64 (X : Int)) ∧ (wr.alloc (.cells #[.int .u64 (X : Int), .int .i64 (Y : Int)] 32)).cell? ⟨wr.heap.size, 1, none⟩ = some (.int .i64 (Y : Int))) := by
                            show _ ∧ _
                            constructor <;> go_simp
                          clear hT hA huns
                          go_wp2_with fail
                          refine Calls.mono HTT.out ?_
                          rintro e w2 ⟨g2, q2, rfl, o2, x2⟩
                          clear HTT k1 k2
                          have hg2' := (o2.lt g2 rfl).1
                          have hg2 : wr.heap.size ≤ g2 := by simp at hg2'; omega
                          have O2 : Hid (Own w2.drew _ (.slice (some ⟨g2, 0, none⟩) (join (join L (enc X)) (enc Y)).length q2) (join (join L (enc X)) (enc Y))) := o2.below (Below.drew (Below.refl _ w2))
                          have X2 : Hid (Ext _ w2.drew) := Below.drew x2
                          clear o2 x2 hg2'
                          go_wp2_with fail
                          have hS5' : w2.drew.cell? ⟨wr.heap.size, 0, none⟩ = some (.int .u64 (X : Int)) ∧ w2.drew.cell? ⟨wr.heap.size, 1, none⟩ = some (.int .i64 (Y : Int)) := ⟨(Below.cell X2.out (cell_lt SA.out.1)).trans SA.out.1, (Below.cell X2.out (cell_lt SA.out.2)).trans SA.out.2⟩
                          have hS5 : (TidAt wr.heap.size X Y) w2.drew := hS5'
                          have kk1 : ∀ s : Cls (TidAt wr.heap.size X Y), s.wd.cell? ⟨wr.heap.size, 0, none⟩ = some (.int .u64 (X : Int)) := fun s => s.ok.1
                          have kk2 : ∀ s : Cls (TidAt wr.heap.size X Y), s.wd.cell? ⟨wr.heap.size, 1, none⟩ = some (.int .i64 (Y : Int)) := fun s => s.ok.2
                          haveI n1 : Nonempty (Cls (TidAt wr.heap.size X Y)) := ⟨⟨w2.drew, hS5⟩⟩
                          refine wp_region_seg (TidAt wr.heap.size X Y) (by kernel_rfl) ?_
                          refine wpAnyH_seg (by kernel_rfl) (fun _ _ _ h => h) [0, 1, 2, 5, 6, 7] 5 _ _ _ hS5 (by kernel_rfl) ?_
                          simp only [opsAt, List.getElem?_toArray, List.getElem?_cons_zero, List.getElem?_cons_succ, List.cons_append, List.nil_append]
                          repeat (go_big_quiet_step (fail))
                          refine wpQuiet_nil ?_
                          clear kk1 kk2 n1
                          refine wpAnyH_all (rs := [3]) (fuel := 4) (by kernel_rfl) (by simp) fun j hj => ?_
                          obtain rfl : j = 3 := by simpa using hj
                          refine wpOp_enter 99 rfl (by kernel_rfl) rfl (f := 17) (args := #[.int .u64 (X : Int)]) (by kernel_rfl) (lput_any X w2.drew (by omega)) ?_
                          rintro e w6 ⟨g6, q6, rfl, o6, x6⟩
                          have hS6 : (TidAt wr.heap.size X Y) w6 := ⟨(Below.cell x6 (cell_lt hS5.1)).trans hS5.1, (Below.cell x6 (cell_lt hS5.2)).trans hS5.2⟩
                          refine ⟨_, rfl, hS6, ?_⟩
                          simp only [Act.put, List.setIfInBounds_toArray, List.set_cons_succ, List.set_cons_zero]
                          have hO6 := HO.out.below (HA.out.trans (X2.out.trans x6))
                          have hE6 : Ext w w6 := HE.out.trans (HA.out.trans (X2.out.trans x6))
                          have hsz6 := Below.size hE6
                          have hB6 := O2.out.below x6
                          refine wpAnyH_all (rs := [4]) (fuel := 3) (by kernel_rfl) (by simp) fun j hj => ?_
                          obtain rfl : j = 4 := by simpa using hj
                          refine wpOp_join 100 rfl (by kernel_rfl) rfl _ _ rfl w.heap.size _ L (enc X) hO6 rfl g6 q6 o6.src rfl (by omega) hsz6 ?_
                          intro v7 w7 o7 hg7 hat7
                          have hS7 : (TidAt wr.heap.size X Y) w7 := ⟨cell_grown hS6.1 hg7 (far_of HO.out (Nat.le_refl _)), cell_grown hS6.2 hg7 (far_of HO.out (Nat.le_refl _))⟩
                          refine ⟨hS7, ?_⟩
                          simp only [Act.put, List.setIfInBounds_toArray, List.set_cons_succ, List.set_cons_zero]
                          have E7 : Ext w w7 := Below.grown hE6 hg7 hsz6 (fun k hk => (hO6.lt k hk).1)
                          have B7 : Own w7 (wr.alloc (.cells #[.int .u64 (X : Int), .int .i64 (Y : Int)] 32)).heap.size (.slice (some ⟨g2, 0, none⟩) (join (join L (enc X)) (enc Y)).length q2) (join (join L (enc X)) (enc Y)) := hB6.grown hg7 (far_of HO.out hg2)
                          have F7 : v7.ownBlock ≠ some g2 := far_at HO.out hg2 (hB6.lt g2 rfl).2 hat7
                          have FK : v7.ownBlock ≠ some wr.heap.size := far_at HO.out (Nat.le_refl _) (cell_lt hS6.1) hat7
                          refine wpAnyH_all (rs := [8]) (fuel := 2) (by kernel_rfl) (by simp) fun j hj => ?_
                          obtain rfl : j = 8 := by simpa using hj
                          refine wpOp_enter 104 rfl (by kernel_rfl) rfl (f := 17) (args := #[.int .u64 (Y : Int)]) (by kernel_rfl) (lput_any Y w7 (by omega)) ?_
                          rintro e w8 ⟨g8, q8, rfl, o8, x8⟩
                          have hS8 : (TidAt wr.heap.size X Y) w8 := ⟨(Below.cell x8 (cell_lt hS7.1)).trans hS7.1, (Below.cell x8 (cell_lt hS7.2)).trans hS7.2⟩
                          refine ⟨_, rfl, hS8, ?_⟩
                          simp only [Act.put, List.setIfInBounds_toArray, List.set_cons_succ, List.set_cons_zero]
                          have o7' := o7.below x8
                          have E8 : Ext w w8 := E7.trans x8
                          have B8 := B7.below x8
                          refine wpAnyH_all (rs := [9]) (fuel := 1) (by kernel_rfl) (by simp) fun j hj => ?_
                          obtain rfl : j = 9 := by simpa using hj
                          refine wpOp_join 105 rfl (by kernel_rfl) rfl _ _ rfl w.heap.size _ (join L (enc X)) (enc Y) o7' rfl g8 q8 o8.src rfl (by rw [JL.out]; omega) (Below.size E8) ?_
                          intro v9 w9 o9 hg9 _
                          have hS9 : (TidAt wr.heap.size X Y) w9 := ⟨cell_grown hS8.1 hg9 FK, cell_grown hS8.2 hg9 FK⟩
                          refine ⟨hS9, ?_⟩
                          simp only [Act.put, List.setIfInBounds_toArray, List.set_cons_succ, List.set_cons_zero]
                          have E9 : Hid (Ext w w9) := Below.grown E8 hg9 (Below.size E8) (fun k hk => (o7'.lt k hk).1)
                          have S9 : Hid (Src w9 (.slice (some ⟨g2, 0, none⟩) (join (join L (enc X)) (enc Y)).length q2) (join (join L (enc X)) (enc Y))) := (B8.grown hg9 F7).src
                          have O9 : Hid (Own w9 w.heap.size v9 (join (join L (enc X)) (enc Y))) := o9
                          haveI n2 : Nonempty (Cls (TidAt wr.heap.size X Y)) := ⟨⟨w9, hS9⟩⟩
                          refine wpAnyH_seg (by kernel_rfl) (fun _ _ _ h => h) [10] 0 _ _ _ hS9 (by kernel_rfl) ?_
                          simp only [opsAt, List.getElem?_toArray, List.getElem?_cons_zero, List.getElem?_cons_succ, List.cons_append, List.nil_append]
                          repeat (go_big_quiet_step (fail))
                          refine wpQuiet_nil ?_
                          refine wpAnyH_done (by kernel_rfl) (NoPanic.normal ?_) 0
                          clear n2
                          go_wp2
                          go_roundw
                          case rel => exact ⟨some ⟨g2, 0, none⟩, q2, i + 1, by rw [HM.out], by go_num, by omega, by rw [HM.out]; exact S9.out, by rw [HM.out]; exact O9.out, by rw [HM.out, JM.out, JL.out]; omega, HV2.out, E9.out⟩
                          case measure => simp [intOf]; omega
                        · go_wp2_with fail
                          go_ret
                          exact ⟨rfl, Below.alloc HE.out (Below.size HE.out) _⟩
                      · go_wp2_with fail
                        go_ret
                        exact ⟨rfl, Below.alloc HE.out (Below.size HE.out) _⟩
                    · go_wp2_with fail
                      go_ret
                      exact ⟨rfl, Below.alloc HE.out (Below.size HE.out) _⟩
                  · have hin : i = tz.length := by omega
                    subst hin
                    have hS0 := HS.out
                    have hO0 := HO.out
                    have hr := r1_zero ns ss ts
                    rw [htl] at hr
                    rw [hr] at hS0 hO0 hlen3
                    rw [hr]
                    have HE1 : Hid (Ext w wr) := HE.out
                    have t1 := hS0.str
                    have t2 := hO0.src.str
                    have HS1 : Hid (Src wr (.slice ao (r1 ns ss ts 0).length ca) (r1 ns ss ts 0)) := hS0
                    clear hr hS0 hO0 HS HO HE
                    go_wp2_with fail
                    refine (read_any ao (r1 ns ss ts 0).length ca (r1 ns ss ts 0) wr HS1.out (by omega)).mono ?_
                    rintro e w2 ⟨g, b, rfl, hR, hb2, hg, hb⟩
                    have hszr := Below.size HE1.out
                    have HR2 : Hid (Rdr w2 g b (r1 ns ss ts 0) 0) := hR
                    have HE2 : Hid (Ext w w2) := HE1.out.trans hb2
                    have hgw : w.heap.size ≤ g := by omega
                    have hbw : w.heap.size ≤ b := by omega
                    clear hR hb2 HS1 HE1 t1 t2 hg hb hszr
                    go_wp2_with fail
                    go_loopw [116] (fun vi wr => ∃ i : Nat, vi = .int .i64 (i : Int) ∧ i ≤ ns.length ∧ Rdr wr g b (r1 ns ss ts i) 0 ∧ Ext w wr) (fun vi _ => ns.length - (intOf vi).toNat)
                    case atStart => exact ⟨0, rfl, Nat.zero_le _, HR2.out, HE2.out⟩
                    case round =>
                      obtain ⟨i, rfl, hi, hR, hE⟩ := hrel
                      have HR : Hid (Rdr wr g b (r1 ns ss ts i) 0) := hR
                      have HE : Hid (Ext w wr) := hE
                      clear hR hE HR2 HE2
                      by_cases hlt : i < ns.length
                      · obtain ⟨hN, ad, rfl, hcell⟩ := HN.out i hlt
                        have k1 := (Below.cell HE.out (cell_lt hcell)).trans hcell
                        have hc := num_any g b (r1 ns ss ts i) 0 18446744073709551615 wr HR.out
                        rw [r1_read ns ss ts i hlt hN] at hc
                        have HC : Hid (Calls _ _ _ _ _) := hc
                        clear hc hcell
                        generalize ns[i] = N at *
                        go_wp2_with fail
                        refine Calls.mono HC.out ?_
                        rintro e w3 ⟨rfl, hR3, hg3⟩
                        have HR3 : Hid (Rdr w3 g b (r1 ns ss ts (i + 1)) 0) := hR3
                        have HE3 : Hid (Ext w w3) := turnB HE.out hg3 (Below.size HE.out) hgw
                        clear hR3 hg3 HC k1 HR HE
                        go_wp2
                        go_roundw
                        case rel => exact ⟨i + 1, by go_num, by omega, HR3.out, HE3.out⟩
                        case measure => simp [intOf]; omega
                      · have hin : i = ns.length := by omega
                        subst hin
                        have hR0 := HR.out
                        rw [r1_all ns ss ts] at hR0
                        have HR2 : Hid (Rdr wr g b (r2 ss ts 0) 0) := hR0
                        have HE2 : Hid (Ext w wr) := HE.out
                        clear hR0 HR HE
                        go_wp2_with fail
                        go_loopw [127] (fun vi wr => ∃ i : Nat, vi = .int .i64 (i : Int) ∧ i ≤ ss.length ∧ Rdr wr g b (r2 ss ts i) 0 ∧ Ext w wr) (fun vi _ => ss.length - (intOf vi).toNat)
                        case atStart => exact ⟨0, rfl, Nat.zero_le _, HR2.out, HE2.out⟩
                        case round =>
                          obtain ⟨i, rfl, hi, hR, hE⟩ := hrel
                          have HR : Hid (Rdr wr g b (r2 ss ts i) 0) := hR
                          have HE : Hid (Ext w wr) := hE
                          clear hR hE HR2 HE2
                          by_cases hlt : i < ss.length
                          · obtain ⟨ad, rfl⟩ : ∃ ad, sa = some ad := by
                              cases sa with
                              | none => have := (hsn rfl).1; omega
                              | some ad => exact ⟨ad, rfl⟩
                            obtain ⟨hcell, hsm⟩ := HSS.out ad rfl i hlt
                            unfold maxLen at hsm
                            have k1 := (Below.cell HE.out (cell_lt hcell)).trans hcell
                            have hc := text_read g b (r2 ss ts i) 0 (ss[i].size : Int) wr HR.out (wf_i64 (by omega) (by omega))
                            rw [Int.toNat_natCast, r2_read ss ts i hlt (by omega), back_bytes] at hc
                            have HC : Hid (Calls _ _ _ _ _) := hc
                            clear hc hcell
                            generalize ss[i] = s at *
                            go_wp2_with fail
                            refine Calls.mono HC.out ?_
                            rintro e w3 ⟨rfl, hR3, hg3⟩
                            have HR3 : Hid (Rdr w3 g b (r2 ss ts (i + 1)) 0) := hR3
                            have HE3 : Hid (Ext w w3) := turnB HE.out hg3 (Below.size HE.out) hgw
                            clear hR3 hg3 HC k1 HR HE
                            go_wp2
                            go_roundw
                            case rel => exact ⟨i + 1, by go_num, by omega, HR3.out, HE3.out⟩
                            case measure => simp [intOf]; omega
                          · have hin : i = ss.length := by omega
                            subst hin
                            have hR0 := HR.out
                            rw [r2_all ss ts] at hR0
                            have HR2 : Hid (Rdr wr g b (r3 ts 0) 0) := hR0
                            have HE2 : Hid (Ext w wr) := HE.out
                            clear hR0 HR HE
                            go_wp2_with fail
                            go_loopw [140] (fun vi wr => ∃ i : Nat, vi = .int .i64 (i : Int) ∧ i ≤ tz.length ∧ Rdr wr g b (r3 ts i) 0 ∧ Ext w wr) (fun vi _ => tz.length - (intOf vi).toNat)
                            case atStart => exact ⟨0, rfl, Nat.zero_le _, HR2.out, HE2.out⟩
                            case round =>
                              obtain ⟨i, rfl, hi, hR, hE⟩ := hrel
                              have HR : Hid (Rdr wr g b (r3 ts i) 0) := hR
                              have HE : Hid (Ext w wr) := hE
                              clear hR hE HR2 HE2
                              by_cases hlt : i < tz.length
                              · obtain ⟨ad, rfl⟩ : ∃ ad, ta = some ad := by
                                  cases ta with
                                  | none => have := htn rfl; omega
                                  | some ad => exact ⟨ad, rfl⟩
                                obtain ⟨hc1, hc2, wx', wy'⟩ := HTS.out ad rfl i hlt
                                have bx := bounds_u64 wx'
                                obtain ⟨gx, gy0, gy⟩ := HV.out i hlt hlt
                                have k1 := (Below.cell HE.out (cell_lt hc1)).trans hc1
                                have k2 := cell_nx ((Below.cell HE.out (cell_lt hc2)).trans hc2)
                                have hti : ts[i]'(by omega) = (tz[i].1.toNat, tz[i].2.toNat) := by
                                  have := HT.out
                                  subst this
                                  simp
                                have HM0 := r3_read ts i (by omega) (by rw [hti]; simp; omega) (by rw [hti]; simp; omega)
                                rw [hti] at HM0
                                clear hc1 hc2 wx' wy' hti
                                generalize tz[i].1 = x at *
                                generalize tz[i].2 = y at *
                                obtain ⟨X, rfl⟩ := Int.eq_ofNat_of_zero_le bx.1
                                obtain ⟨Y, rfl⟩ := Int.eq_ofNat_of_zero_le gy0
                                have HM : Hid (rtid (r3 ts i) 0 = ((X, Y), r3 ts (i + 1), 0)) := HM0
                                clear HM0
                                have hneq := fun W => tid_neq_same X Y W
                                have HA : Hid (Ext wr (wr.alloc (.cells #[.int .u64 (X : Int), .int .i64 (Y : Int)] 32))) := (Below.refl _ _).alloc (Nat.le_refl _) _
                                have SA : Hid ((wr.alloc (.cells #[.int .u64 (X : Int), .int .i64 (Y : Int)] 32)).cell? ⟨wr.heap.size, 0, none⟩ = some (.int .u64 (X : Int)) ∧ (wr.alloc (.cells #[.int .u64 (X : Int), .int .i64 (Y : Int)] 32)).cell? ⟨wr.heap.size, 1, none⟩ = some (.int .i64 (Y : Int))) := by
                                  show _ ∧ _
                                  constructor <;> go_simp
                                have hgz := HR.out.lt
                                go_wp2_with fail
                                have hS5 : TidAt wr.heap.size X Y (wr.alloc (.cells #[.int .u64 (X : Int), .int .i64 (Y : Int)] 32)).drew := SA.out
                                have HR5 : Hid (Rdr (wr.alloc (.cells #[.int .u64 (X : Int), .int .i64 (Y : Int)] 32)).drew g b (r3 ts i) 0) := HR.out.below (Below.drew HA.out)
                                have HE5 : Hid (Ext w (wr.alloc (.cells #[.int .u64 (X : Int), .int .i64 (Y : Int)] 32)).drew) := Below.drew (HE.out.trans HA.out)
                                have hc := tid_read g b (r3 ts i) 0 _ HR5.out
                                rw [HM.out] at hc
                                have HC : Hid (Calls _ _ _ _ _) := hc
                                clear hc k1 k2
                                have kk1 : ∀ s : Cls (TidAt wr.heap.size X Y), s.wd.cell? ⟨wr.heap.size, 0, none⟩ = some (.int .u64 (X : Int)) := fun s => s.ok.1
                                have kk2 : ∀ s : Cls (TidAt wr.heap.size X Y), s.wd.cell? ⟨wr.heap.size, 1, none⟩ = some (.int .i64 (Y : Int)) := fun s => s.ok.2
                                haveI n1 : Nonempty (Cls (TidAt wr.heap.size X Y)) := ⟨⟨_, hS5⟩⟩
                                refine wp_region_seg (TidAt wr.heap.size X Y) (by kernel_rfl) ?_
                                refine wpAnyH_seg (by kernel_rfl) (fun _ _ _ h => h) [0, 2] 2 _ _ _ hS5 (by kernel_rfl) ?_
                                simp only [opsAt, List.getElem?_toArray, List.getElem?_cons_zero, List.getElem?_cons_succ, List.cons_append, List.nil_append]
                                repeat (go_big_quiet_step (fail))
                                refine wpQuiet_nil ?_
                                clear kk1 kk2 n1
                                refine wpAnyH_all (rs := [1]) (fuel := 1) (by kernel_rfl) (by simp) fun j hj => ?_
                                obtain rfl : j = 1 := by simpa using hj
                                refine wpOp_enter 145 rfl (by kernel_rfl) rfl (f := 23) (args := #[.pointer (some ⟨g, 0, none⟩)]) (by kernel_rfl) HC.out ?_
                                rintro e w6 ⟨rfl, hR6, hg6⟩
                                have hS6 : TidAt wr.heap.size X Y w6 := ⟨cell_grown hS5.1 hg6 (by intro e; have : g = wr.heap.size := Option.some.inj e; omega), cell_grown hS5.2 hg6 (by intro e; have : g = wr.heap.size := Option.some.inj e; omega)⟩
                                refine ⟨_, rfl, hS6, ?_⟩
                                simp only [Act.put, List.setIfInBounds_toArray, List.set_cons_succ, List.set_cons_zero]
                                haveI n2 : Nonempty (Cls (TidAt wr.heap.size X Y)) := ⟨⟨_, hS6⟩⟩
                                refine wpAnyH_seg (by kernel_rfl) (fun _ _ _ h => h) [3] 0 _ _ _ hS6 (by kernel_rfl) ?_
                                simp only [opsAt, List.getElem?_toArray, List.getElem?_cons_zero, List.getElem?_cons_succ, List.cons_append, List.nil_append]
                                repeat (go_big_quiet_step (fail))
                                refine wpQuiet_nil ?_
                                refine wpAnyH_done (by kernel_rfl) (NoPanic.normal ?_) 0
                                have HR6 : Hid (Rdr w6 g b (r3 ts (i + 1)) 0) := hR6
                                have HE6 : Hid (Ext w w6) := turnB HE5.out hg6 (Below.size HE5.out) hgw
                                clear n2 hneq HC hR6 hg6
                                go_wp2
                                go_roundw
                                case rel => exact ⟨i + 1, by go_num, by omega, HR6.out, HE6.out⟩
                                case measure => simp [intOf]; omega
                              · have hin : i = tz.length := by omega
                                subst hin
                                have hR0 := HR.out
                                have hr := r3_all ts
                                rw [htl] at hr
                                rw [hr] at hR0
                                have HR2 : Hid (Rdr wr g b [] 0) := hR0
                                clear hR0 HR hr
                                go_wp2_with fail
                                refine (end_any g b [] 0 wr HR2.out).mono ?_
                                rintro e w7 ⟨rfl, hw⟩
                                rw [hw]; clear hw w7
                                go_wp2_with fail
                                refine (left_any g b [] 0 wr HR2.out).mono ?_
                                rintro e w7 ⟨rfl, hw⟩
                                rw [hw]; clear hw w7
                                go_wp2_with fail
                                refine (err_any g b [] 0 wr HR2.out).mono ?_
                                rintro e w7 ⟨rfl, hw⟩
                                rw [hw]; clear hw w7
                                go_wp2
                                go_ret
                                exact ⟨rfl, HE.out⟩
      · go_enter Try.func3, Try.ntmps3
        go_wp2_with fail
        refine (head_any _).mono ?_
        rintro e w1 ⟨rfl, hb1⟩
        go_wp2_with fail
        go_ret
        exact ⟨rfl, hb1⟩
    · go_enter Try.func3, Try.ntmps3
      go_wp2_with fail
      refine (head_any _).mono ?_
      rintro e w1 ⟨rfl, hb1⟩
      go_wp2_with fail
      go_ret
      exact ⟨rfl, hb1⟩
  · go_enter Try.func3, Try.ntmps3
    go_wp2_with fail
    refine (head_any _).mono ?_
    rintro e w1 ⟨rfl, hb1⟩
    go_wp2_with fail
    go_ret
    exact ⟨rfl, hb1⟩
end Go.Proofs.Ytopnblhedankcaa

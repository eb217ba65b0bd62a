/- NumBehind: the walk of the law's Go text. -/
import Derived.Test.YtopnblhedankcaaWNumTids
import Derived.Test.YtopnblhedankcaaSeg
namespace Go.Proofs.Ytopnblhedankcaa
open Go.ChangeShapes Go.WideShapes Go.ChangeAt Go.RowKit

theorem Src.strE {W0 : World} {v : Value} {l : List UInt8} (h : Src W0 v l) : ∀ s : Cls (Ext W0), (convert 26 9 v).run Try.prog s.wd = .ok (.string ⟨l.toArray⟩) s.wd := fun s => (h.below s.ok).str

theorem src_of_own {w w' : World} {B : Nat} {v : Value} {l : List UInt8} (h : Own w B v l) (hb : Below w.heap.size w w') : Src w' v l := (h.src).below hb

theorem cat_bytes (l m : List UInt8) : (⟨l.toArray⟩ : ByteArray) ++ ⟨m.toArray⟩ = ⟨(l ++ m).toArray⟩ := by
  apply ByteArray.ext
  simp [ByteArray.data_append]

theorem Own.form' {w : World} {B : Nat} {v : Value} {l : List UInt8} (h : Own w B v l) (hn : ¬ v = .slice none 0 0) :
    ∃ g cap, v = .slice (some ⟨g, 0, none⟩) l.length cap ∧ B ≤ g := by
  rcases h.2 with ⟨h', _⟩ | ⟨g, cap, cur, rfl, hb, hg, hnc, hcm, _⟩
  · exact absurd h' hn
  · exact ⟨g, cap, rfl, hb⟩

theorem join_nil (l : List UInt8) : join [] l = l := rfl

set_option maxHeartbeats 4000000 in
theorem walk_NumBehind (a : Option Addr) (len cap : Nat) (zs : List Int) (n : Int) (s : ByteArray) (w : World) (hw : IsRow .u8 w a len cap zs) (hn : (Lit.int .u64 n).wf = true) (hs : s.size ≤ maxLen) :
    Calls Try.prog 10 #[.slice a len cap, .int .u64 n, .string s] w fun e w' => e = .returned (.bool true) ∧ Below w.heap.size w w' := by
  obtain ⟨l, hsrc, hlen⟩ := isRow_src hw
  clear hw
  subst hlen
  have bn := bounds_u64 hn
  clear hn
  obtain ⟨N, rfl⟩ := Int.eq_ofNat_of_zero_le bn.1
  have hc := hsrc.at
  have hcm : cap ≤ 9223372036854775807 := by have := hc.2.2.1; unfold maxLen at this; omega
  have hlc := hc.2.1
  unfold maxLen at hs
  clear hc
  by_cases hl : l.length ≤ 100
  · by_cases hsl : s.size ≤ 200
    · go_enter Try.func10, Try.ntmps10
      go_wp2_with fail
      refine (head_any _).mono ?_
      rintro e w1 ⟨rfl, hB1⟩
      have hs1 := hsrc.below hB1
      have hst := hs1.str
      have hs1' := hB1.size
      go_wp2_with (first | (at_builtin; refine wpList_join _ rfl _ _ rfl w1.heap.size _ [] l (World.ownsRow_lit w1 #[] 0 (Nat.le_refl _) (Nat.zero_le _) rfl) rfl _ (hs1.below ((Below.refl _ _).alloc (Nat.le_refl _) _)) rfl (by simp; omega) (by simp) ?_))
      intro v2 w2 hown2 hg2 hnn2
      have hb2 : Below w1.heap.size w1 w2 := ((Below.refl _ w1).alloc (Nat.le_refl _) _).grown hg2 (by simp) (by intro k hk; simp [Value.ownBlock] at hk; omega)
      have hB2 := hB1.trans (hb2.mono hs1')
      rw [join_nil] at hown2
      obtain ⟨g2, cap2, hv2, _⟩ := Own.form' hown2 hnn2
      subst hv2
      have hsr2 := hown2.src
      clear hown2 hg2 hnn2 hst hs1
      go_wp2_with fail
      refine (put_any _ _ _ l N w2 hsr2 (by omega) (by omega)).mono ?_
      rintro e w3 ⟨g3, cap3, rfl, hown3, hb3⟩
      have hB3 := hB2.trans (hb3.mono hB2.size)
      have hs3 := hsrc.below hB3
      have hs3' := hB3.size
      clear hsr2 hb2 hb3 hB2
      go_wp2_with (first | (at_builtin; refine wpList_join _ rfl _ _ rfl w3.heap.size _ [] l (World.ownsRow_lit w3 #[] 0 (Nat.le_refl _) (Nat.zero_le _) rfl) rfl _ (hs3.below ((Below.refl _ _).alloc (Nat.le_refl _) _)) rfl (by simp; omega) (by simp) ?_))
      intro v4 w4 hown4 hg4 hnn4
      have hb4 : Below w3.heap.size w3 w4 := ((Below.refl _ w3).alloc (Nat.le_refl _) _).grown hg4 (by simp) (by intro k hk; simp [Value.ownBlock] at hk; omega)
      have hB4 := hB3.trans (hb4.mono hs3')
      rw [join_nil] at hown4
      obtain ⟨g4, cap4, hv4, _⟩ := Own.form' hown4 hnn4
      subst hv4
      have hsr4 := hown4.src
      have hx4 := src_of_own hown3 hb4
      clear hown4 hg4 hnn4 hs3 hown3
      go_wp2_with fail
      refine (text_any _ _ _ l s w4 hsr4 (by omega)).mono ?_
      rintro e w5 ⟨g5, cap5, rfl, hown5, hb5⟩
      have hB5 := hB4.trans (hb5.mono hB4.size)
      have hs5' := hB5.size
      have hx5 := hx4.below hb5
      have hy5 := hown5.src
      have hl5 := hsrc.below hB5
      clear hown5 hb5 hB4 hx4 hsr4 hb4 hB3
      have hx6 := hx5.below ((Below.refl _ w5).drew)
      have hy6 := hy5.below ((Below.refl _ w5).drew)
      have hl6 := hl5.below ((Below.refl _ w5).drew)
      clear hx5 hy5 hl5
      go_wp2_with fail
      have he1 := enc_length N
      have he2 := enc_length s.size
      have hq1 : ¬ (9223372036854775807 < l.length + (join [] (enc N)).length) := by rw [join_length]; simp; omega
      have hq2 : ¬ (9223372036854775807 < l.length + (join (join [] (enc s.size)) s.data.toList).length) := by rw [join_length, join_length]; simp; omega
      have hz1 : ((join l (enc N)) == ((⟨l.toArray⟩ : ByteArray) ++ ⟨(join [] (enc N)).toArray⟩).toList) = true := by rw [cat_bytes, ByteArray.toList_mk]; simp [join]
      have hz2 : ((join (join l (enc s.size)) s.data.toList) == ((⟨l.toArray⟩ : ByteArray) ++ ⟨(join (join [] (enc s.size)) s.data.toList).toArray⟩).toList) = true := by rw [cat_bytes, ByteArray.toList_mk]; simp [join]
      clear he1 he2
      refine wp_region_ext (by kernel_rfl) ?_
      refine wpAnyH_seg (by kernel_rfl) (fun _ _ _ h => h) [0, 1, 2, 3] 21 _ _ _ (Ext.refl _) (by kernel_rfl) ?_
      have i1 := hx6.strE
      haveI n1 := cls_ext w5.drew
      simp only [opsAt, List.getElem?_toArray, List.getElem?_cons_zero, List.getElem?_cons_succ, List.cons_append, List.nil_append]
      repeat (go_big_quiet_step (fail))
      refine wpQuiet_nil ?_
      clear i1 n1
      refine wpAnyH_callE (i := 4) (fuel := 20) 36 rfl (by kernel_rfl) rfl (Ext.refl _) (by kernel_rfl) (f := 16) (args := #[.slice none 0 0, .int .u64 (N : Int)]) (by kernel_rfl) (put_any none 0 0 [] N _ (Src.nil _) (by omega) (by simp)) ?_
      rintro e w6 ⟨g6, cap6, rfl, hown6, hb6⟩
      refine ⟨_, rfl, hb6, ?_⟩
      simp only [Act.put, List.setIfInBounds_toArray, List.set_cons_succ, List.set_cons_zero]
      refine wpAnyH_seg (by kernel_rfl) (fun _ _ _ h => h) [5, 6, 7, 8, 9, 10, 11, 12] 12 _ _ _ (Ext.refl _) (by kernel_rfl) ?_
      have i1 := hown6.src.strE
      have i2 := (hy6.below hb6).strE
      haveI n1 := cls_ext w6
      simp only [opsAt, List.getElem?_toArray, List.getElem?_cons_zero, List.getElem?_cons_succ, List.cons_append, List.nil_append]
      repeat (go_big_quiet_step (fail))
      refine wpQuiet_nil ?_
      clear i1 i2 n1
      refine wpAnyH_callE (i := 13) (fuel := 11) 45 rfl (by kernel_rfl) rfl (Ext.refl _) (by kernel_rfl) (f := 18) (args := #[.slice none 0 0, .string s]) (by kernel_rfl) (text_any none 0 0 [] s _ (Src.nil _) (by simp; omega)) ?_
      rintro e w7 ⟨g7, cap7, rfl, hown7, hb7⟩
      refine ⟨_, rfl, hb7, ?_⟩
      simp only [Act.put, List.setIfInBounds_toArray, List.set_cons_succ, List.set_cons_zero]
      refine wpAnyH_seg (by kernel_rfl) (fun _ _ _ h => h) [14, 15, 16, 17, 18, 19, 20, 21, 22, 23, 24] 0 _ _ _ (Ext.refl _) (by kernel_rfl) ?_
      have i1 := hown7.src.strE
      have i2 := ((hl6.below hb6).below hb7).strE
      haveI n1 := cls_ext w7
      simp only [opsAt, List.getElem?_toArray, List.getElem?_cons_zero, List.getElem?_cons_succ, List.cons_append, List.nil_append]
      repeat (go_big_quiet_step (fail))
      refine wpQuiet_nil ?_
      refine wpAnyH_done (by kernel_rfl) (NoPanic.normal ?_) 0
      have hB7 : Below w.heap.size w w7 := hB5.drew.trans ((hb6.mono hs5').trans (hb7.mono (Nat.le_trans hs5' hb6.size)))
      go_wp2
      go_ret
      exact ⟨rfl, hB7⟩
    · go_enter Try.func10, Try.ntmps10
      go_wp2_with fail
      refine (head_any _).mono ?_
      rintro e w1 ⟨rfl, hB1⟩
      go_wp2
      go_ret
      exact ⟨rfl, hB1⟩
  · go_enter Try.func10, Try.ntmps10
    go_wp2_with fail
    refine (head_any _).mono ?_
    rintro e w1 ⟨rfl, hB1⟩
    go_wp2
    go_ret
    exact ⟨rfl, hB1⟩
end Go.Proofs.Ytopnblhedankcaa

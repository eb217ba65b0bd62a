/- The Go texts of key.Map's around, Get, With, Without, Same. Own lemmas, no statement. -/
import Derived.Test.YtopnblhedankcaaCut
namespace Go.Proofs.Ytopnblhedankcaa
open Go.ChangeShapes Go.WideShapes Go.ChangeAt Go.RowKit

set_option maxHeartbeats 1000000 in
theorem around_any (ao : Option Addr) (n c : Nat) (m : List KV) (k : ByteArray) (w : World) (hp : Pairs w (.slice ao n c) m) (hr : Rising m) (hn : m.length ≤ 4611686018427387904) :
    Calls Try.prog 43 #[.slice ao n c, .string k] w fun e w' => e = .returned (.tuple #[.slice ao (idx k m) c, cutV ao m.length c (atB k m)]) ∧ Ext w w' := by
  obtain ⟨rfl, hc, hm, _⟩ := hp.at
  have hm' := hm
  unfold maxLen at hm'
  have hi := idx_le k m
  have HF : Hid (∀ W, Pairs W (.slice ao m.length c) m → Calls Try.prog 42 #[.slice ao m.length c, .string k] W fun e w' => e = .returned (.tuple #[.int .i64 (idx k m : Nat), .bool (hasK k m)]) ∧ Ext W w') := fun W hW => find_any ao m.length c m k W hW hr hn
  have HA : Hid (atB k m = if hasK k m then idx k m + 1 else idx k m) := rfl
  have hl := hasK_lt k m
  have hcv : Hid (∀ S, cutV ao m.length c S = if c = S then .slice ao (m.length - S) 0 else .slice (Option.map (fun x => x.add (S * 2)) ao) (m.length - S) (c - S)) := fun S => rfl
  have HP : Hid (Pairs w (.slice ao m.length c) m) := hp
  clear hp hr
  generalize idx k m = I at *
  generalize hasK k m = B at *
  cases B with
  | true =>
    have hI := hl rfl
    clear hl
    have HA' : Hid (atB k m = I + 1) := HA.out
    clear HA
    by_cases hcc : c = I + 1
    · subst hcc
      go_enter Try.func43, Try.ntmps43
      go_wp2_with fail
      refine (HF.out w HP.out).mono ?_
      rintro e w2 ⟨rfl, hE2⟩
      haveI n1 := cls_ext w2.drew
      go_wp2_with fail
      refine wp_region_ext (by kernel_rfl) ?_
      refine wpAnyH_seg (by kernel_rfl) (fun _ _ _ h => h) [0, 1, 2, 3, 4, 5, 6, 7, 8] 0 _ _ _ (Ext.refl _) (by kernel_rfl) ?_
      simp only [opsAt, List.getElem?_toArray, List.getElem?_cons_zero, List.getElem?_cons_succ, List.cons_append, List.nil_append]
      repeat (go_big_quiet_step (fail))
      refine wpQuiet_nil ?_
      refine wpAnyH_done (by kernel_rfl) (NoPanic.normal ?_) 0
      clear n1
      have HE : Hid (Ext w w2.drew) := hE2.drew
      clear hE2
      go_wp2
      go_ret2
      exact ⟨by rw [HA'.out, hcv.out, if_pos rfl, show m.length - (I + 1) = 0 by omega]; rfl, HE.out⟩
    · have HC : Hid (¬ c = I + 1) := hcc
      go_enter Try.func43, Try.ntmps43
      go_wp2_with fail
      refine (HF.out w HP.out).mono ?_
      rintro e w2 ⟨rfl, hE2⟩
      haveI n1 := cls_ext w2.drew
      go_wp2_with fail
      refine wp_region_ext (by kernel_rfl) ?_
      refine wpAnyH_seg (by kernel_rfl) (fun _ _ _ h => h) [0, 1, 2, 3, 4, 5, 6, 7, 8] 0 _ _ _ (Ext.refl _) (by kernel_rfl) ?_
      simp only [opsAt, List.getElem?_toArray, List.getElem?_cons_zero, List.getElem?_cons_succ, List.cons_append, List.nil_append]
      repeat (go_big_quiet_step (fail))
      refine wpQuiet_nil ?_
      refine wpAnyH_done (by kernel_rfl) (NoPanic.normal ?_) 0
      clear n1
      have HE : Hid (Ext w w2.drew) := hE2.drew
      clear hE2
      go_wp2
      go_ret2
      exact ⟨by rw [HA'.out, hcv.out, if_neg HC.out]; rfl, HE.out⟩
  | false =>
    clear hl
    have HA' : Hid (atB k m = I) := HA.out
    clear HA
    by_cases hcc : c = I
    · subst hcc
      go_enter Try.func43, Try.ntmps43
      go_wp2_with fail
      refine (HF.out w HP.out).mono ?_
      rintro e w2 ⟨rfl, hE2⟩
      haveI n1 := cls_ext w2.drew
      go_wp2_with fail
      refine wp_region_ext (by kernel_rfl) ?_
      refine wpAnyH_seg (by kernel_rfl) (fun _ _ _ h => h) [0, 1, 2, 3, 4, 5, 6, 7] 0 _ _ _ (Ext.refl _) (by kernel_rfl) ?_
      simp only [opsAt, List.getElem?_toArray, List.getElem?_cons_zero, List.getElem?_cons_succ, List.cons_append, List.nil_append]
      repeat (go_big_quiet_step (fail))
      refine wpQuiet_nil ?_
      refine wpAnyH_done (by kernel_rfl) (NoPanic.normal ?_) 0
      clear n1
      have HE : Hid (Ext w w2.drew) := hE2.drew
      clear hE2
      go_wp2
      go_ret2
      exact ⟨by rw [HA'.out, hcv.out, if_pos rfl, show m.length - c = 0 by omega]; rfl, HE.out⟩
    · have HC : Hid (¬ c = I) := hcc
      go_enter Try.func43, Try.ntmps43
      go_wp2_with fail
      refine (HF.out w HP.out).mono ?_
      rintro e w2 ⟨rfl, hE2⟩
      haveI n1 := cls_ext w2.drew
      go_wp2_with fail
      refine wp_region_ext (by kernel_rfl) ?_
      refine wpAnyH_seg (by kernel_rfl) (fun _ _ _ h => h) [0, 1, 2, 3, 4, 5, 6, 7] 0 _ _ _ (Ext.refl _) (by kernel_rfl) ?_
      simp only [opsAt, List.getElem?_toArray, List.getElem?_cons_zero, List.getElem?_cons_succ, List.cons_append, List.nil_append]
      repeat (go_big_quiet_step (fail))
      refine wpQuiet_nil ?_
      refine wpAnyH_done (by kernel_rfl) (NoPanic.normal ?_) 0
      clear n1
      have HE : Hid (Ext w w2.drew) := hE2.drew
      clear hE2
      go_wp2
      go_ret2
      exact ⟨by rw [HA'.out, hcv.out, if_neg HC.out]; rfl, HE.out⟩

end Go.Proofs.Ytopnblhedankcaa

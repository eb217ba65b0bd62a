/- lock: what the closures come to; find, mode, awaits. Own lemmas, no statement. -/
import Derived.Test.YtkgecljoodofeaaLkB
set_option linter.unusedSimpArgs false
set_option linter.unusedVariables false
namespace Go.Proofs.Ytkgecljoodofeaa
open Go.ChangeShapes Go.WideShapes Go.ChangeAt Go.RowKit

def agB (w o : Wn) : Bool := !eqT w.t o.t && (w.mode == 2 || o.mode == 2)
theorem td_cases (a b c d : Int) : (a = c ∧ b = d ∧ eqT ⟨a, b⟩ ⟨c, d⟩ = true) ∨ (a = c ∧ b ≠ d ∧ eqT ⟨a, b⟩ ⟨c, d⟩ = false) ∨ (a ≠ c ∧ eqT ⟨a, b⟩ ⟨c, d⟩ = false) := by
  by_cases h : a = c
  · by_cases k : b = d
    · exact .inl ⟨h, k, eqT_iff.2 (Td.ext' h k)⟩
    · exact .inr (.inl ⟨h, k, eqT_ne fun e => k (by injection e)⟩)
  · exact .inr (.inr ⟨h, eqT_ne fun e => h (by injection e)⟩)
set_option maxHeartbeats 1000000 in
theorem awaits1_any (x : Wn) (t : Td) (b : Nat) (w : World) (h0 : w.cell? ⟨b, 0, none⟩ = some (.int .u64 t.num)) (h1 : w.cell? ⟨b, 1, none⟩ = some (.int .i64 t.node)) :
    Calls Try.prog 43 #[.agg #[.int .u64 x.num, .int .i64 x.node, .int .i64 x.mode], .pointer (some ⟨b, 0, none⟩)] w fun e w' => e = .returned (.bool (eqT x.t t)) ∧ Ext w w' := by
  obtain ⟨xn, xd, xm⟩ := x
  obtain ⟨tn, td⟩ := t
  have hb := cell_lt h0
  simp only at hb
  have hw0 : (w.alloc (.cells #[.int .u64 xn, .int .i64 xd, .int .i64 xm] 55)).cell? ⟨b, 0, none⟩ = some (.int .u64 tn) := (Below.cell (ext_one _) (cell_lt h0)).trans h0
  have hw1 : (w.alloc (.cells #[.int .u64 xn, .int .i64 xd, .int .i64 xm] 55)).cell? ⟨b, 1, none⟩ = some (.int .i64 td) := (Below.cell (ext_one _) (cell_lt h1)).trans h1
  show Calls _ _ _ _ fun e w' => e = .returned (.bool (eqT ⟨xn, xd⟩ ⟨tn, td⟩)) ∧ Ext w w'
  rcases td_cases xn xd tn td with ⟨rfl, rfl, he⟩ | ⟨rfl, hd, he⟩ | ⟨hn, he⟩
  · rw [he]
    clear he
    go_enter Try.func43, Try.ntmps43
    go_wp2
    go_ret
    exact ⟨by simp_all, ext_one _⟩
  · rw [he]
    clear he
    have hd2 : (xd == td) = false := beq_eq_false_iff_ne.2 hd
    go_enter Try.func43, Try.ntmps43
    go_wp2
    go_ret
    exact ⟨by simp_all, ext_one _⟩
  · rw [he]
    clear he
    have hn2 : (xn == tn) = false := beq_eq_false_iff_ne.2 hn
    go_enter Try.func43, Try.ntmps43
    go_wp2
    go_ret
    exact ⟨by simp_all, ext_one _⟩
set_option maxHeartbeats 1000000 in
theorem leave1_any (x : Wn) (t : Td) (b : Nat) (w : World) (h0 : w.cell? ⟨b, 0, none⟩ = some (.int .u64 t.num)) (h1 : w.cell? ⟨b, 1, none⟩ = some (.int .i64 t.node)) :
    Calls Try.prog 51 #[.agg #[.int .u64 x.num, .int .i64 x.node, .int .i64 x.mode], .pointer (some ⟨b, 0, none⟩)] w fun e w' => e = .returned (.bool (eqT x.t t)) ∧ Ext w w' := by
  obtain ⟨xn, xd, xm⟩ := x
  obtain ⟨tn, td⟩ := t
  have hb := cell_lt h0
  simp only at hb
  have hw0 : (w.alloc (.cells #[.int .u64 xn, .int .i64 xd, .int .i64 xm] 55)).cell? ⟨b, 0, none⟩ = some (.int .u64 tn) := (Below.cell (ext_one _) (cell_lt h0)).trans h0
  have hw1 : (w.alloc (.cells #[.int .u64 xn, .int .i64 xd, .int .i64 xm] 55)).cell? ⟨b, 1, none⟩ = some (.int .i64 td) := (Below.cell (ext_one _) (cell_lt h1)).trans h1
  show Calls _ _ _ _ fun e w' => e = .returned (.bool (eqT ⟨xn, xd⟩ ⟨tn, td⟩)) ∧ Ext w w'
  rcases td_cases xn xd tn td with ⟨rfl, rfl, he⟩ | ⟨rfl, hd, he⟩ | ⟨hn, he⟩
  · rw [he]
    clear he
    go_enter Try.func51, Try.ntmps51
    go_wp2
    go_ret
    exact ⟨by simp_all, ext_one _⟩
  · rw [he]
    clear he
    have hd2 : (xd == td) = false := beq_eq_false_iff_ne.2 hd
    go_enter Try.func51, Try.ntmps51
    go_wp2
    go_ret
    exact ⟨by simp_all, ext_one _⟩
  · rw [he]
    clear he
    have hn2 : (xn == tn) = false := beq_eq_false_iff_ne.2 hn
    go_enter Try.func51, Try.ntmps51
    go_wp2
    go_ret
    exact ⟨by simp_all, ext_one _⟩
set_option maxHeartbeats 1000000 in
theorem against_any (x y : Wn) (w : World) :
    Calls Try.prog 44 #[.agg #[.int .u64 x.num, .int .i64 x.node, .int .i64 x.mode], .agg #[.int .u64 y.num, .int .i64 y.node, .int .i64 y.mode]] w fun e w' => e = .returned (.bool (agB x y)) ∧ Ext w w' := by
  obtain ⟨xn, xd, xm⟩ := x
  obtain ⟨yn, yd, ym⟩ := y
  show Calls _ _ _ _ fun e w' => e = .returned (.bool (!eqT ⟨xn, xd⟩ ⟨yn, yd⟩ && (xm == 2 || ym == 2))) ∧ Ext w w'
  rcases td_cases xn xd yn yd with ⟨rfl, rfl, he⟩ | ⟨rfl, hd, he⟩ | ⟨hn, he⟩
  · rw [he]
    clear he
    go_enter Try.func44, Try.ntmps44
    go_wp2
    go_ret
    exact ⟨by simp_all, ext_two _ _⟩
  · rw [he]
    clear he
    have hd2 : (xd == yd) = false := beq_eq_false_iff_ne.2 hd
    by_cases h2 : xm = 2
    · subst h2
      go_enter Try.func44, Try.ntmps44
      go_wp2
      go_ret
      exact ⟨by simp_all, ext_two _ _⟩
    · have h2b : (xm == 2) = false := beq_eq_false_iff_ne.2 h2
      by_cases h3 : ym = 2
      · subst h3
        go_enter Try.func44, Try.ntmps44
        go_wp2
        go_ret
        exact ⟨by simp_all, ext_two _ _⟩
      · have h3b : (ym == 2) = false := beq_eq_false_iff_ne.2 h3
        go_enter Try.func44, Try.ntmps44
        go_wp2
        go_ret
        exact ⟨by simp_all, ext_two _ _⟩
  · rw [he]
    clear he
    have hn2 : (xn == yn) = false := beq_eq_false_iff_ne.2 hn
    by_cases h2 : xm = 2
    · subst h2
      go_enter Try.func44, Try.ntmps44
      go_wp2
      go_ret
      exact ⟨by simp_all, ext_two _ _⟩
    · have h2b : (xm == 2) = false := beq_eq_false_iff_ne.2 h2
      by_cases h3 : ym = 2
      · subst h3
        go_enter Try.func44, Try.ntmps44
        go_wp2
        go_ret
        exact ⟨by simp_all, ext_two _ _⟩
      · have h3b : (ym == 2) = false := beq_eq_false_iff_ne.2 h3
        go_enter Try.func44, Try.ntmps44
        go_wp2
        go_ret
        exact ⟨by simp_all, ext_two _ _⟩

set_option maxHeartbeats 1000000 in
theorem find1_any (i : Nat) (b1 b2 : Nat) (hv wv : Value) (ls : List Wn) (t : Td) (w : World) (h1 : w.cell? ⟨b1, 0, none⟩ = some hv) (h2 : w.cell? ⟨b2, 0, none⟩ = some (.int .u64 t.num)) (h3 : w.cell? ⟨b2, 1, none⟩ = some (.int .i64 t.node)) (hp : RowW w hv ls) (hi : i < ls.length) :
    Calls Try.prog 56 #[.int .i64 (i : Int), .pointer (some ⟨b1, 0, none⟩), .pointer (some ⟨b2, 0, none⟩)] w fun e w' => e = .returned (.bool (!(eldT ls[i].t t))) ∧ Ext w w' := by
  obtain ⟨ao, c, rfl, hc, hm, _, hr⟩ := hp
  obtain ⟨ad, had⟩ := hr.ad hi
  subst had
  obtain ⟨c0, c1, c2⟩ := hr.2 ad rfl i hi
  obtain ⟨x, hx⟩ : ∃ x, x = ls[i] := ⟨_, rfl⟩
  rw [← hx] at c0 c1 c2 ⊢
  clear hx hr
  have HE0 : Hid (Calls _ _ _ _ _) := elder_any x.num x.node t.num t.node w.drew
  generalize ls.length = n at *
  unfold maxLen at hm
  have k1 := cellX (W0 := w.drew) h1
  have k2 := cellX (W0 := w.drew) h2
  have k3 := cellX (W0 := w.drew) h3
  have k4 := cellX (W0 := w.drew) c0
  have k5 := cellX (W0 := w.drew) c1
  clear h1 h2 h3 c0 c1 c2
  haveI n1 := cls_ext w.drew
  go_enter Try.func56, Try.ntmps56
  go_upto_region 1 with fail
  refine wp_region_ext (by kernel_rfl) ?_
  refine wpAnyH_seg (by kernel_rfl) (fun _ _ _ h => h) [0, 1, 2, 3, 4, 5, 6] 3 _ _ _ (Ext.refl _) (by kernel_rfl) ?_
  simp only [opsAt, List.getElem?_toArray, List.getElem?_cons_zero, List.getElem?_cons_succ, List.cons_append, List.nil_append]
  repeat (go_big_quiet_step (fail))
  refine wpQuiet_nil ?_
  refine wpAnyH_callE (i := 7) (fuel := 2) 12 rfl (by kernel_rfl) rfl (Ext.refl _) (by kernel_rfl) (f := 45) (args := #[.agg #[.int .u64 x.num, .int .i64 x.node], .agg #[.int .u64 t.num, .int .i64 t.node]]) (by kernel_rfl) HE0.out ?_
  rintro e w2 ⟨rfl, hE⟩
  refine ⟨_, rfl, hE, ?_⟩
  have HE : Hid (Ext w.drew w2) := hE
  clear HE0
  haveI n2 := cls_ext w2
  simp only [Act.put, List.setIfInBounds_toArray, List.set_cons_succ, List.set_cons_zero]
  refine wpAnyH_seg (by kernel_rfl) (fun _ _ _ h => h) [8, 9] 0 _ _ _ (Ext.refl _) (by kernel_rfl) ?_
  simp only [opsAt, List.getElem?_toArray, List.getElem?_cons_zero, List.getElem?_cons_succ, List.cons_append, List.nil_append]
  repeat (go_big_quiet_step (fail))
  refine wpQuiet_nil ?_
  refine wpAnyH_done (by kernel_rfl) (NoPanic.normal ?_) 0
  clear k1 k2 k3 k4 k5 n1 n2 hE
  go_wp2
  go_ret
  exact ⟨rfl, Ext.trans (Below.refl _ w).drew HE.out⟩
end Go.Proofs.Ytkgecljoodofeaa

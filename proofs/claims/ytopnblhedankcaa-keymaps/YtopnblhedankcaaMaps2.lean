/- The Go texts of key.Map's With, Without, Same. Own lemmas, no statement. -/
import Derived.Test.YtopnblhedankcaaMaps
namespace Go.Proofs.Ytopnblhedankcaa
open Go.ChangeShapes Go.WideShapes Go.ChangeAt Go.RowKit

/-- A map of keys that a call owns. -/
def OwnM (w : World) (B : Nat) (v : Value) (m : List KV) : Prop := w.ownsRow B 70 2 v m.length (pv m)
theorem OwnM.pairs {w : World} {B : Nat} {v : Value} {m : List KV} (h : OwnM w B v m) : Pairs w v m := by
  rcases h.2 with ⟨rfl, hn⟩ | ⟨g, cap, cur, rfl, hb, hg, hnc, hcm, hcs, ht⟩
  · have : m = [] := List.eq_nil_of_length_eq_zero hn
    subst this
    exact ⟨none, 0, rfl, Nat.le_refl _, Nat.zero_le _, fun _ => ⟨rfl, rfl⟩, fun ad h => by cases h⟩
  · exact ⟨_, cap, rfl, hnc, hcm, fun h => (by cases h), fun ad had => by cases had; exact World.ownsRow.cells h rfl⟩
theorem infoP : (Try.prog.info? 70).map (fun i => (i.zero, i.size, i.bytes)) = some (some (.agg #[.string ByteArray.empty, .string ByteArray.empty]), 2, 32) := by kernel_rfl

def mcat (l m : List KV) : List KV := l ++ m

theorem wpList_joinM {ops : Array Oper} {rest : List Oper} {o : Oper} {a : Act} {Q : Exit → Act → World → Prop} (w : World) (hgd : o.guard = none) (s x : Operand)
    (ho : o.op = .call { callee := .builtin .append, args := #[s, x], argTypes := #[60, 60] })
    (B : Nat) (v : Value) (l m : List KV) (hown : OwnM w B v l) (hs : a.eval s = v) (vx : Value) (hsrc : Pairs w vx m) (hx : a.eval x = vx)
    (hl : l.length + m.length < 1099511627776) (hB : B ≤ w.heap.size)
    (hK : ∀ v' w', OwnM w' B v' (mcat l m) → w.grownBy w' v.ownBlock → (v' = .slice none 0 0 → v = .slice none 0 0) → wpList Try.prog ops Q rest (a.put o.dst v') w') :
    wpList Try.prog ops Q (o :: rest) a w := by
  obtain ⟨i0, hi, hz0, hz1, hz2⟩ := info_parts infoP
  obtain ⟨ao, c, rfl, h1, h2, h3, h4⟩ := hsrc
  cases ao with
  | none =>
    obtain ⟨rfl, rfl⟩ := h3 rfl
    refine wpList_plain hgd fun K hK' => ?_
    have hrun := run_append_owned_none (P := Try.prog) w B 60 o.type 70 i0 2 Try.underlying60 hi v l.length (pv l) hown
    unfold Oper.wp
    simp only [List.length_nil] at hx
    simp [execOp, ho, resolve, invoke, builtin, hs, hx, hrun, Result.andThen]
    exact hK' _ _ (hK v w (by simpa [mcat] using hown) (World.grownBy.refl _ _) id)
  | some ad =>
    refine wpList_append_own _ hgd s x 60 ho B 70 i0 (.agg #[.string ByteArray.empty, .string ByteArray.empty]) 2 32 Try.underlying60 hi hz0 hz1 hz2 rfl (by decide) v l.length (pv l) hs hown ad m.length c (pv m) hx (pv_length m) (h4 ad rfl) (pv_one m) (by unfold maxLen; omega) (by omega) hB ?_
    intro v' w' k1 k2 k3
    refine hK v' w' ?_ k2 (fun h => (k3.1 h).1)
    unfold OwnM mcat
    rw [List.length_append, pv_append]
    exact k1

theorem wpList_pushM {ops : Array Oper} {rest : List Oper} {o : Oper} {a : Act} {Q : Exit → Act → World → Prop} (w : World) (hgd : o.guard = none) (s x : Operand)
    (ho : o.op = .call { callee := .builtin .append, args := #[s, x], argTypes := #[60, 60] })
    (B : Nat) (v : Value) (l : List KV) (k u : ByteArray) (hown : OwnM w B v l) (hs : a.eval s = v) (hx : a.eval x = .slice (some ⟨w.heap.size, 0, none⟩) 1 1)
    (hl : l.length < 1099511627776) (hB : B ≤ w.heap.size)
    (hK : ∀ v' w', OwnM w' B v' (mcat l [(k, u)]) → Below B w w' → (v' = .slice none 0 0 → False) → wpList Try.prog ops Q rest (a.put o.dst v') w') :
    wpList Try.prog ops Q (o :: rest) a (w.alloc (.cells #[.string k, .string u] 70)) := by
  obtain ⟨i0, hi, hz0, hz1, hz2⟩ := info_parts infoP
  refine wpList_append_own _ hgd s x 60 ho B 70 i0 (.agg #[.string ByteArray.empty, .string ByteArray.empty]) 2 32 Try.underlying60 hi hz0 hz1 hz2 rfl (by decide) v l.length (pv l) hs (hown.alloc _) ⟨w.heap.size, 0, none⟩ 1 1 [.string k, .string u] hx rfl ?_ ?_ ?_ ?_ ?_ ?_
  · intro j y hj
    match j, hj with
    | 0, hj => simp at hj; subst hj; simp [Addr.add]
    | 1, hj => simp at hj; subst hj; simp [Addr.add]
  · intro y hy; simp at hy; rcases hy with rfl | rfl <;> rfl
  · unfold maxLen; omega
  · omega
  · simp; omega
  · intro v' w' h1 h2 h3
    refine hK v' w' ?_ ?_ ?_
    · unfold OwnM mcat
      rw [List.length_append, pv_append]
      exact h1
    · refine ((Below.refl B w).alloc hB _).grown h2 (by simp; omega) ?_
      intro i hi
      exact (hown.lt i hi).1
    · intro h; exact absurd (h3.1 h).2 (by decide)

/-- The map that a call hands back: in memory of its own. -/
def GivesM (w : World) (m : List KV) (e : Ending) (w' : World) : Prop :=
  ∃ g cap, e = .returned (.slice (some ⟨g, 0, none⟩) m.length cap) ∧ OwnM w' w.heap.size (.slice (some ⟨g, 0, none⟩) m.length cap) m ∧ Ext w w'

theorem OwnM.form {w : World} {B : Nat} {v : Value} {m : List KV} (h : OwnM w B v m) (hn : ¬ v = .slice none 0 0) : ∃ g cap, v = .slice (some ⟨g, 0, none⟩) m.length cap := by
  rcases h.2 with ⟨h', _⟩ | ⟨g, cap, cur, rfl, hb, hg, hnc, hcm, _⟩
  · exact absurd h' hn
  · exact ⟨g, cap, rfl⟩
theorem OwnM.mono {w : World} {B B' : Nat} {v : Value} {m : List KV} (h : OwnM w B v m) (hB : B' ≤ B) : OwnM w B' v m := by
  refine ⟨h.1, ?_⟩
  rcases h.2 with h | ⟨g, cap, cur, rfl, hb, r⟩
  · exact .inl h
  · exact .inr ⟨g, cap, cur, rfl, Nat.le_trans hB hb, r⟩

theorem cutV_form (ao : Option Addr) (n c S : Nat) : ∃ ao' c', cutV ao n c S = .slice ao' (n - S) c' := by
  unfold cutV
  split
  · exact ⟨_, _, rfl⟩
  · exact ⟨_, _, rfl⟩

set_option maxHeartbeats 1000000 in
theorem with_any (ao : Option Addr) (n c : Nat) (m : List KV) (k u : ByteArray) (w : World) (hp : Pairs w (.slice ao n c) m) (hr : Rising m) (hn : m.length < 1000000000) :
    Calls Try.prog 35 #[.slice ao n c, .string k, .string u] w (GivesM w (ins k u m)) := by
  obtain ⟨i0, hi0, hz0, hz1, hz2⟩ := info_parts infoP
  obtain ⟨rfl, hc, hm, h3⟩ := hp.at
  have hi := idx_le k m
  have hb := atB_le k m
  obtain ⟨ao', c', hcv⟩ := cutV_form ao m.length c (atB k m)
  have P1 : Hid (Pairs w (.slice ao (idx k m) c) (m.take (idx k m))) := pairs_take _ h3 hc hm hi
  have P2 : Hid (Pairs w (.slice ao' (m.length - atB k m) c') (m.drop (atB k m))) := by
    show Pairs w _ _
    rw [← hcv]; exact pairs_cut _ h3 hc hm hb
  have HF : Hid (Calls Try.prog 43 #[.slice ao m.length c, .string k] w fun e w' => e = .returned (.tuple #[.slice ao (idx k m) c, .slice ao' (m.length - atB k m) c']) ∧ Ext w w') := by
    have := around_any ao m.length c m k w hp hr (by omega)
    rw [hcv] at this; exact this
  have HI : Hid (ins k u m = mcat (mcat (m.take (idx k m)) [(k, u)]) (m.drop (atB k m))) := by
    show ins k u m = _
    rw [ins_eq]; unfold mcat atB; simp
  have hl1 : (m.take (idx k m)).length = idx k m := by rw [List.length_take, Nat.min_eq_left hi]
  have hl2 : (m.drop (atB k m)).length = m.length - atB k m := List.length_drop
  have L1 : Hid _ := hl1
  have L2 : Hid _ := hl2
  generalize m.take (idx k m) = T at *
  generalize m.drop (atB k m) = D at *
  generalize idx k m = I at *
  obtain ⟨J, hJ⟩ : ∃ J, J = m.length - atB k m := ⟨_, rfl⟩
  have hJn : J ≤ m.length := by omega
  rw [← hJ] at P2 HF L2
  clear hJ hcv hl1 hl2 hp hr h3
  unfold maxLen at hm
  go_enter Try.func35, Try.ntmps35
  go_wp2_with fail
  refine (Calls.mono HF.out ?_)
  rintro e w1 ⟨rfl, hE1⟩
  have HE1 : Hid (Ext w w1) := hE1
  have hs1 := Below.size hE1
  clear hE1
  go_wp2_with (first | (at_make; refine wpList_make_own _ rfl _ _ 60 rfl w1.heap.size 70 i0 (.agg #[.string ByteArray.empty, .string ByteArray.empty]) 2 Try.underlying60 hi0 hz0 hz1 .i64 .i64 _ (I + 1 + J) rfl rfl (by omega) ?_ ?_ (Nat.le_refl _) ?_))
  · rw [hz2]; omega
  · unfold maxLen; omega
  intro w2 hown2 hg2
  have hE2 : Ext w1 w2 := (Below.refl _ _).grown hg2 (Nat.le_refl _) (by intro k hk; cases hk)
  go_wp2_with (first | (at_builtin; refine wpList_joinM _ rfl _ _ rfl w1.heap.size _ [] T hown2 rfl _ (P1.out.below (HE1.out.trans hE2)) rfl ?_ (Below.size hE2) ?_))
  · rw [L1.out]; simp; omega
  intro v3 w3 hown3 hg3 hnn3
  have hE3 : Ext w1 w3 := Below.grown hE2 hg3 (Below.size hE2) (fun k hk => (hown2.lt k hk).1)
  have hnn3' : v3 = .slice none 0 0 → False := fun h => by have := hnn3 h; simp at this
  clear hown2 hg2 hg3 hnn3 hE2
  go_wp2_with (first | (at_builtin; refine wpList_pushM _ rfl _ _ rfl w1.heap.size _ (mcat [] T) k u hown3 rfl rfl ?_ (Below.size hE3) ?_))
  · unfold mcat; rw [List.nil_append, L1.out]; omega
  intro v4 w4 hown4 hb4 hnn4
  have hE4 : Ext w1 w4 := Below.trans hE3 hb4
  clear hown3 hb4 hE3 hnn3'
  go_wp2_with (first | (at_builtin; refine wpList_joinM _ rfl _ _ rfl w1.heap.size _ (mcat (mcat [] T) [(k, u)]) D hown4 rfl _ (P2.out.below (HE1.out.trans hE4)) rfl ?_ (Below.size hE4) ?_))
  · unfold mcat; rw [List.nil_append, List.length_append, L1.out, L2.out]; simp; omega
  intro v5 w5 hown5 hg5 hnn5
  have hE5 : Ext w1 w5 := Below.grown hE4 hg5 (Below.size hE4) (fun k hk => (hown4.lt k hk).1)
  have hE6 : Ext w w5 := HE1.out.trans hE5
  have hmc : mcat (mcat (mcat [] T) [(k, u)]) D = ins k u m := HI.out.symm
  rw [hmc] at hown5
  obtain ⟨g, cap, hv5⟩ := OwnM.form hown5 (fun h => hnn5 h)
  have H5 : Hid (OwnM w5 w.heap.size v5 (ins k u m)) := hown5.mono hs1
  rw [hv5] at H5 ⊢
  have H6 : Hid (Ext w w5) := hE6
  clear hown5 hg5 hnn5 hE5 hE6 hv5 hown4 hnn4 hE4 hmc
  go_wp2
  go_ret
  exact ⟨g, cap, rfl, H5.out, H6.out⟩
set_option maxHeartbeats 1000000 in
theorem without_any (ao : Option Addr) (n c : Nat) (m : List KV) (k : ByteArray) (w : World) (hp : Pairs w (.slice ao n c) m) (hr : Rising m) (hn : m.length < 1000000000) :
    Calls Try.prog 36 #[.slice ao n c, .string k] w (GivesM w (del k m)) := by
  obtain ⟨i0, hi0, hz0, hz1, hz2⟩ := info_parts infoP
  obtain ⟨rfl, hc, hm, h3⟩ := hp.at
  have hi := idx_le k m
  have hb := atB_le k m
  obtain ⟨ao', c', hcv⟩ := cutV_form ao m.length c (atB k m)
  have P1 : Hid (Pairs w (.slice ao (idx k m) c) (m.take (idx k m))) := pairs_take _ h3 hc hm hi
  have P2 : Hid (Pairs w (.slice ao' (m.length - atB k m) c') (m.drop (atB k m))) := by
    show Pairs w _ _
    rw [← hcv]; exact pairs_cut _ h3 hc hm hb
  have HF : Hid (Calls Try.prog 43 #[.slice ao m.length c, .string k] w fun e w' => e = .returned (.tuple #[.slice ao (idx k m) c, .slice ao' (m.length - atB k m) c']) ∧ Ext w w') := by
    have := around_any ao m.length c m k w hp hr (by omega)
    rw [hcv] at this; exact this
  have HI : Hid (del k m = mcat (m.take (idx k m)) (m.drop (atB k m))) := by
    show del k m = _
    rw [del_eq]; unfold mcat atB; simp
  have hl1 : (m.take (idx k m)).length = idx k m := by rw [List.length_take, Nat.min_eq_left hi]
  have hl2 : (m.drop (atB k m)).length = m.length - atB k m := List.length_drop
  have L1 : Hid _ := hl1
  have L2 : Hid _ := hl2
  generalize m.take (idx k m) = T at *
  generalize m.drop (atB k m) = D at *
  generalize idx k m = I at *
  obtain ⟨J, hJ⟩ : ∃ J, J = m.length - atB k m := ⟨_, rfl⟩
  have hJn : J ≤ m.length := by omega
  rw [← hJ] at P2 HF L2
  clear hJ hcv hl1 hl2 hp hr h3
  unfold maxLen at hm
  go_enter Try.func36, Try.ntmps36
  go_wp2_with fail
  refine (Calls.mono HF.out ?_)
  rintro e w1 ⟨rfl, hE1⟩
  have HE1 : Hid (Ext w w1) := hE1
  have hs1 := Below.size hE1
  clear hE1
  go_wp2_with (first | (at_make; refine wpList_make_own _ rfl _ _ 60 rfl w1.heap.size 70 i0 (.agg #[.string ByteArray.empty, .string ByteArray.empty]) 2 Try.underlying60 hi0 hz0 hz1 .i64 .i64 _ (I + J) rfl rfl (by omega) ?_ ?_ (Nat.le_refl _) ?_))
  · rw [hz2]; omega
  · unfold maxLen; omega
  intro w2 hown2 hg2
  have hE2 : Ext w1 w2 := (Below.refl _ _).grown hg2 (Nat.le_refl _) (by intro k hk; cases hk)
  go_wp2_with (first | (at_builtin; refine wpList_joinM _ rfl _ _ rfl w1.heap.size _ [] T hown2 rfl _ (P1.out.below (HE1.out.trans hE2)) rfl ?_ (Below.size hE2) ?_))
  · rw [L1.out]; simp; omega
  intro v3 w3 hown3 hg3 hnn3
  have hE3 : Ext w1 w3 := Below.grown hE2 hg3 (Below.size hE2) (fun k hk => (hown2.lt k hk).1)
  have hnn3' : v3 = .slice none 0 0 → False := fun h => by have := hnn3 h; simp at this
  clear hown2 hg2 hg3 hnn3 hE2
  go_wp2_with (first | (at_builtin; refine wpList_joinM _ rfl _ _ rfl w1.heap.size _ (mcat [] T) D hown3 rfl _ (P2.out.below (HE1.out.trans hE3)) rfl ?_ (Below.size hE3) ?_))
  · unfold mcat; rw [List.nil_append, L1.out, L2.out]; omega
  intro v5 w5 hown5 hg5 hnn5
  have hE5 : Ext w1 w5 := Below.grown hE3 hg5 (Below.size hE3) (fun k hk => (hown3.lt k hk).1)
  have hE6 : Ext w w5 := HE1.out.trans hE5
  have hmc : mcat (mcat [] T) D = del k m := HI.out.symm
  rw [hmc] at hown5
  obtain ⟨g, cap, hv5⟩ := OwnM.form hown5 (fun h => hnn3' (hnn5 h))
  have H5 : Hid (OwnM w5 w.heap.size v5 (del k m)) := hown5.mono hs1
  rw [hv5] at H5 ⊢
  have H6 : Hid (Ext w w5) := hE6
  clear hown5 hg5 hnn5 hE5 hE6 hv5 hown3 hnn3' hE3 hmc
  go_wp2
  go_ret
  exact ⟨g, cap, rfl, H5.out, H6.out⟩

theorem strs_neq (a b a' b' : ByteArray) (W : World) : (binOp .neq 70 (.agg #[.string a, .string b]) (.agg #[.string a', .string b'])).run Try.prog W = .ok (.bool (!(decide (a = a' ∧ b = b')))) W := by
  by_cases h : a = a'
  · subst h
    by_cases h2 : b = b'
    · subst h2; simp [go_sem]
    · have h3 : ¬ b.toList = b'.toList := fun h => h2 (toList_inj h)
      simp [go_sem, h2, h3]
  · have h3 : ¬ a.toList = a'.toList := fun h' => h (toList_inj h')
    simp [go_sem, h, h3]

set_option maxHeartbeats 1000000 in
theorem equal_any (ao bo : Option Addr) (n c n' c' : Nat) (m o : List KV) (w : World) (hp : Pairs w (.slice ao n c) m) (hq : Pairs w (.slice bo n' c') o) :
    Calls Try.prog 44 #[.slice ao n c, .slice bo n' c'] w fun e w' => e = .returned (.bool (decide (m = o))) ∧ Ext w w' := by
  obtain ⟨rfl, hc, hm, h3⟩ := hp.at
  obtain ⟨rfl, hc', hm', h3'⟩ := hq.at
  clear hp hq
  unfold maxLen at hm hm'
  have H3 : Hid (PairsAt w ao c m) := h3
  have H4 : Hid (PairsAt w bo c' o) := h3'
  clear h3 h3'
  by_cases hl : m.length = o.length
  · have hlb : ((m.length : Int) != (o.length : Int)) = false := by rw [bne_eq_false_iff_eq]; omega
    have HL : Hid (m.length = o.length) := hl
    clear hl
    go_enter Try.func44, Try.ntmps44
    go_wp2
    go_loopw [13] (fun vi wr => ∃ i : Nat, vi = .int .i64 i ∧ i ≤ m.length ∧ m.take i = o.take i ∧ Ext w wr) (fun vi _ => m.length - (intOf vi).toNat)
    case atStart => exact ⟨0, rfl, by omega, by simp, Ext.refl _⟩
    case round =>
      obtain ⟨i, rfl, hi, ht, hE⟩ := hrel
      have HT : Hid (m.take i = o.take i) := ht
      have HE : Hid (Ext w wr) := hE
      clear ht hE
      by_cases hlt : i < m.length
      · have hlt' : i < o.length := by rw [← HL.out]; exact hlt
        obtain ⟨ad, rfl⟩ : ∃ ad, ao = some ad := by
          cases ao with
          | none => have := (H3.out.1 rfl).1; subst this; simp at hlt
          | some ad => exact ⟨ad, rfl⟩
        obtain ⟨bd, rfl⟩ : ∃ bd, bo = some bd := by
          cases bo with
          | none => have := (H4.out.1 rfl).1; subst this; simp at hlt'
          | some bd => exact ⟨bd, rfl⟩
        have a1 := H3.out.2 ad rfl (i * 2) _ (pv_at m i hlt).1
        have a2 := H3.out.2 ad rfl (i * 2 + 1) _ (pv_at m i hlt).2
        have b1 := H4.out.2 bd rfl (i * 2) _ (pv_at o i hlt').1
        have b2 := H4.out.2 bd rfl (i * 2 + 1) _ (pv_at o i hlt').2
        have k1 := cellE (W0 := wr.drew) ((Below.cell HE.out (cell_lt a1)).trans a1)
        have k2 := cellE (W0 := wr.drew) (cell_next ((Below.cell HE.out (cell_lt a2)).trans a2))
        have k3 := cellE (W0 := wr.drew) ((Below.cell HE.out (cell_lt b1)).trans b1)
        have k4 := cellE (W0 := wr.drew) (cell_next ((Below.cell HE.out (cell_lt b2)).trans b2))
        haveI n1 := cls_ext wr.drew
        clear a1 a2 b1 b2
        by_cases heq : m[i].1 = o[i].1 ∧ m[i].2 = o[i].2
        · have hneq : ∀ W, (binOp .neq 70 (.agg #[.string m[i].1, .string m[i].2]) (.agg #[.string o[i].1, .string o[i].2])).run Try.prog W = .ok (.bool false) W := fun W => by rw [strs_neq]; simp [heq]
          have HT2 : Hid (m.take (i + 1) = o.take (i + 1)) := by
            show m.take (i + 1) = o.take (i + 1)
            rw [List.take_succ_eq_append_getElem hlt, List.take_succ_eq_append_getElem hlt', HT.out, Prod.ext heq.1 heq.2]
          clear heq HT
          go_wp2_with fail
          refine wp_region_ext (by kernel_rfl) ?_
          refine wpAnyH_seg (by kernel_rfl) (fun _ _ _ h => h) [0, 1, 2, 3, 4, 5, 6, 7, 8] 0 _ _ _ (Ext.refl _) (by kernel_rfl) ?_
          simp only [opsAt, List.getElem?_toArray, List.getElem?_cons_zero, List.getElem?_cons_succ, List.cons_append, List.nil_append]
          repeat (go_big_quiet_step (fail))
          refine wpQuiet_nil ?_
          refine wpAnyH_done (by kernel_rfl) (NoPanic.normal ?_) 0
          clear k1 k2 k3 k4 hneq n1
          go_wp2
          go_roundw
          case rel => exact ⟨i + 1, by go_num, by omega, HT2.out, Below.drew HE.out⟩
          case measure => simp [intOf]; omega
        · have hneq : ∀ W, (binOp .neq 70 (.agg #[.string m[i].1, .string m[i].2]) (.agg #[.string o[i].1, .string o[i].2])).run Try.prog W = .ok (.bool true) W := fun W => by rw [strs_neq]; simp only [heq]; rfl
          have HN : Hid (¬ m = o) := by
            show ¬ m = o
            intro h
            subst h
            exact heq ⟨rfl, rfl⟩
          clear heq HT
          go_wp2_with fail
          refine wp_region_ext (by kernel_rfl) ?_
          refine wpAnyH_seg (by kernel_rfl) (fun _ _ _ h => h) [0, 1, 2, 3, 4, 5, 6, 7, 8] 0 _ _ _ (Ext.refl _) (by kernel_rfl) ?_
          simp only [opsAt, List.getElem?_toArray, List.getElem?_cons_zero, List.getElem?_cons_succ, List.cons_append, List.nil_append]
          repeat (go_big_quiet_step (fail))
          refine wpQuiet_nil ?_
          refine wpAnyH_done (by kernel_rfl) (NoPanic.normal ?_) 0
          clear k1 k2 k3 k4 hneq n1
          go_wp2
          go_ret
          exact ⟨ret_bool (by have := HN.out; simp [this]), Below.drew HE.out⟩
      · have HY : Hid (m = o) := by
          show m = o
          have := HT.out
          rwa [List.take_of_length_le (by omega), List.take_of_length_le (by rw [← HL.out]; omega)] at this
        go_wp2
        go_ret
        exact ⟨ret_bool (by have := HY.out; simp [this]), HE.out⟩
  · have hlb : ((m.length : Int) != (o.length : Int)) = true := by rw [bne_iff_ne]; omega
    have HN : Hid (¬ m = o) := fun h => hl (by rw [h])
    clear hl
    go_enter Try.func44, Try.ntmps44
    go_wp2
    go_ret
    exact ⟨ret_bool (by have := HN.out; simp [this]), Ext.refl _⟩

set_option maxHeartbeats 1000000 in
theorem same_any (ao bo : Option Addr) (n c n' c' : Nat) (m o : List KV) (w : World) (hp : Pairs w (.slice ao n c) m) (hq : Pairs w (.slice bo n' c') o) :
    Calls Try.prog 37 #[.slice ao n c, .slice bo n' c'] w fun e w' => e = .returned (.bool (decide (m = o))) ∧ Ext w w' := by
  have HE : Hid (Calls Try.prog 44 #[.slice ao n c, .slice bo n' c'] w fun e w' => e = .returned (.bool (decide (m = o))) ∧ Ext w w') := equal_any ao bo n c n' c' m o w hp hq
  clear hp hq
  go_enter Try.func37, Try.ntmps37
  go_wp2_with fail
  refine Calls.mono HE.out ?_
  rintro e w1 ⟨rfl, hE⟩
  have HE1 : Hid (Ext w w1) := hE
  clear hE
  go_wp2
  go_ret
  exact ⟨rfl, HE1.out⟩
end Go.Proofs.Ytopnblhedankcaa

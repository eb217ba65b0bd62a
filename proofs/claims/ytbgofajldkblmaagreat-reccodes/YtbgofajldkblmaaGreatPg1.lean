/- Rows of texts and numbers that can be read, or are a call's own; slices.Equal and slices.Clone at texts and numbers. Own lemmas, no statement. -/
import Derived.Test.YtbgofajldkblmaaGreatSeg
import Derived.Test.YtbgofajldkblmaaGreatBlk
import Derived.Test.YtbgofajldkblmaaGreatOpen
import Derived.Test.YtbgofajldkblmaaGreatHash
import Derived.Test.YtbgofajldkblmaaGreatCell
import Derived.Maps.AppendAt
import Derived.Lib.SliceRun
import Derived.Lib.Walk
import Derived.Laws.OwnMore
namespace Go.Proofs.YtbgofajldkblmaaGreat
open Go.ChangeShapes Go.WideShapes Go.ChangeAt Go.RowKit

def sv (ss : List ByteArray) : List Value := ss.map .string
def iv (ns : List Int) : List Value := ns.map (.int .i64)
theorem sv_length (ss : List ByteArray) : (sv ss).length = ss.length := by simp [sv]
theorem iv_length (ss : List Int) : (iv ss).length = ss.length := by simp [iv]
/-- A slice of elements of one cell that can be read. -/
def RdAt (w : World) (ao : Option Addr) (c : Nat) (us : List Value) : Prop :=
  (ao = none → us = [] ∧ c = 0) ∧ ∀ ad, ao = some ad → ∀ j u, us[j]? = some u → w.cell? (ad.add j) = some u
def Rd (w : World) (v : Value) (us : List Value) : Prop := ∃ ao c, v = .slice ao us.length c ∧ us.length ≤ c ∧ c ≤ maxLen ∧ RdAt w ao c us
/-- .. that a call owns, from block B on. -/
def OwnV (w : World) (B : Nat) (T : TypeId) (v : Value) (us : List Value) : Prop := w.ownsRow B T 1 v us.length us

section
variable {w w' : World} {B B' : Nat} {T : TypeId} {v : Value} {us : List Value}
theorem OwnV.rd (h : OwnV w B T v us) : Rd w v us := by
  rcases h.2 with ⟨rfl, hn⟩ | ⟨g, cap, cur, rfl, hb, hg, hnc, hcm, hcs, ht⟩
  · have : us = [] := List.eq_nil_of_length_eq_zero hn
    subst this
    exact ⟨none, 0, rfl, Nat.le_refl _, Nat.zero_le _, fun _ => ⟨rfl, rfl⟩, fun ad h => by cases h⟩
  · exact ⟨_, cap, rfl, hnc, hcm, fun h => (by cases h), fun ad had => by cases had; exact World.ownsRow.cells h rfl⟩
theorem OwnV.mono (h : OwnV w B T v us) (hB : B' ≤ B) : OwnV w B' T v us := by
  refine ⟨h.1, ?_⟩
  rcases h.2 with h | ⟨g, cap, cur, rfl, hb, r⟩
  · exact .inl h
  · exact .inr ⟨g, cap, cur, rfl, Nat.le_trans hB hb, r⟩
theorem Rd.below (h : Rd w v us) (hb : Below w.heap.size w w') : Rd w' v us := by
  obtain ⟨ao, c, rfl, h1, h2, h3, h4⟩ := h
  exact ⟨ao, c, rfl, h1, h2, h3, fun ad had j u hu => by rw [hb.cell (cell_lt (h4 ad had j u hu))]; exact h4 ad had j u hu⟩
theorem OwnV.below (h : OwnV w B T v us) (hb : Below w.heap.size w w') : OwnV w' B T v us := by
  refine ⟨h.1, ?_⟩
  rcases h.2 with h | ⟨g, cap, cur, rfl, hB, hg, r⟩
  · exact .inl h
  · exact .inr ⟨g, cap, cur, rfl, hB, by rw [hb.block g (Array.getElem?_eq_some_iff.1 hg).1]; exact hg, r⟩
/-- .. where the row's own block has stayed. -/
theorem OwnV.kept (h : OwnV w B T v us) (hb : ∀ g, v.ownBlock = some g → w'.heap[g]? = w.heap[g]?) : OwnV w' B T v us := by
  refine ⟨h.1, ?_⟩
  rcases h.2 with h | ⟨g, cap, cur, rfl, hB, hg, r⟩
  · exact .inl h
  · exact .inr ⟨g, cap, cur, rfl, hB, by rw [hb g rfl]; exact hg, r⟩
theorem OwnV.nil (w : World) (B : Nat) (T : TypeId) : OwnV w B T (.slice none 0 0) [] := World.ownsRow_nil _ _ _ _
theorem Rd.nil (w : World) : Rd w (.slice none 0 0) [] := ⟨none, 0, rfl, Nat.le_refl _, Nat.zero_le _, fun _ => ⟨rfl, rfl⟩, fun ad h => by cases h⟩
theorem Rd.at {ao : Option Addr} {n c : Nat} (h : Rd w (.slice ao n c) us) : n = us.length ∧ us.length ≤ c ∧ c ≤ maxLen ∧ RdAt w ao c us := by
  obtain ⟨ao', c', he, h1, h2, h3⟩ := h
  simp only [Value.slice.injEq] at he
  obtain ⟨rfl, rfl, rfl⟩ := he
  exact ⟨rfl, h1, h2, h3⟩
theorem RdAt.ad {ao : Option Addr} {c : Nat} (h : RdAt w ao c us) (hn : 0 < us.length) : ∃ ad, ao = some ad := by
  cases ao with
  | none => have := (h.1 rfl).1; subst this; simp at hn
  | some ad => exact ⟨ad, rfl⟩
theorem RdAt.str {ao : Option Addr} {c : Nat} {ss : List ByteArray} (h : RdAt w ao c (sv ss)) {ad : Addr} (had : ao = some ad) {j : Nat} (hj : j < ss.length) : w.cell? (ad.add j) = some (.string ss[j]) := h.2 ad had j _ (by simp [sv, hj])
theorem RdAt.num {ao : Option Addr} {c : Nat} {ss : List Int} (h : RdAt w ao c (iv ss)) {ad : Addr} (had : ao = some ad) {j : Nat} (hj : j < ss.length) : w.cell? (ad.add j) = some (.int .i64 ss[j]) := h.2 ad had j _ (by simp [iv, hj])
end

theorem infoS : (Tryz.prog.info? 9).map (fun i => (i.zero, i.size, i.bytes)) = some (some (.string ⟨#[]⟩), 1, 16) := by kernel_rfl
theorem infoI : (Tryz.prog.info? 3).map (fun i => (i.zero, i.size, i.bytes)) = some (some (.int .i64 0), 1, 8) := by kernel_rfl

theorem beq_str (a b : ByteArray) : (a.toList == b.toList) = decide (a = b) := by
  rw [Bool.eq_iff_iff, beq_iff_eq, decide_eq_true_iff, ByteArray.toList_eq, ByteArray.toList_eq]
  exact ⟨fun h => ByteArray.ext (Array.toList_inj.1 h), fun h => by rw [h]⟩

set_option maxHeartbeats 1000000 in
theorem equalS_any (v1 v2 : Value) (ss ts : List ByteArray) (w : World) (h1 : Rd w v1 (sv ss)) (h2 : Rd w v2 (sv ts)) :
    Calls Tryz.prog 89 #[v1, v2] w fun e w' => e = .returned (.bool (decide (ss = ts))) ∧ Ext w w' := by
  obtain ⟨ao, c, rfl, a1, a2, a3⟩ := h1
  obtain ⟨bo, d, rfl, b1, b2, b3⟩ := h2
  simp only [sv_length] at *
  unfold maxLen at a2 b2
  by_cases hl : ss.length = ts.length
  · have A3 : Hid (RdAt w ao c (sv ss)) := a3
    have B3 : Hid (RdAt w bo d (sv ts)) := b3
    obtain ⟨n, hn⟩ : ∃ n, ss.length = n := ⟨_, rfl⟩
    have hm : ts.length = n := by omega
    rw [hn] at a1 ⊢
    rw [hm] at b1 ⊢
    have HN : Hid (ss.length = n) := hn
    have HM : Hid (ts.length = n) := hm
    clear a3 b3 hl hn hm
    go_enter Tryz.func89, Tryz.ntmps89
    go_wp2
    go_loopw [5, 13] (fun _ i wr => ∃ k : Nat, i = .int .i64 k ∧ k ≤ n ∧ ss.take k = ts.take k ∧ Ext w wr) (fun _ i _ => n - (intOf i).toNat)
    case atStart => exact ⟨0, rfl, Nat.zero_le _, rfl, Ext.refl _⟩
    case round =>
      obtain ⟨k, rfl, hk, ht, hE⟩ := hrel
      have HT : Hid (ss.take k = ts.take k) := ht
      have HE : Hid (Ext w wr) := hE
      clear ht hE
      by_cases hlt : k < n
      · have hlt1 : k < ss.length := by have := HN.out; omega
        have hlt2 : k < ts.length := by have := HM.out; omega
        obtain ⟨ad, had⟩ := A3.out.ad (by rw [sv_length]; omega)
        obtain ⟨bd, hbd⟩ := B3.out.ad (by rw [sv_length]; omega)
        subst had hbd
        have hD : Hid (Ext w wr.drew) := Below.drew HE.out
        have y1 := cellX (W0 := wr.drew) ((Below.cell HE.out (cell_lt (A3.out.str rfl hlt1))).trans (A3.out.str rfl hlt1))
        have y2 := cellX (W0 := wr.drew) ((Below.cell HE.out (cell_lt (B3.out.str rfl hlt2))).trans (B3.out.str rfl hlt2))
        have HS : Hid (ss.take (k + 1) = ss.take k ++ [ss[k]]) := List.take_succ_eq_append_getElem hlt1
        have HS2 : Hid (ts.take (k + 1) = ts.take k ++ [ts[k]]) := List.take_succ_eq_append_getElem hlt2
        have HG : Hid (ss = ts → ss[k] = ts[k]) := fun e => by subst e; rfl
        generalize ss[k] = x at *
        generalize ts[k] = y at *
        haveI nA := cls_ext wr.drew
        go_wp2_with fail
        refine wp_region_ext (by kernel_rfl) ?_
        refine wpAnyH_seg (by kernel_rfl) (fun _ _ _ h => h) [0, 1, 2, 3, 4, 5, 6, 7, 8] 0 _ _ _ (Ext.refl _) (by kernel_rfl) ?_
        simp only [opsAt, List.getElem?_toArray, List.getElem?_cons_zero, List.getElem?_cons_succ, List.cons_append, List.nil_append]
        repeat (go_big_quiet_step (fail))
        refine wpQuiet_nil ?_
        refine wpAnyH_done (by kernel_rfl) (NoPanic.normal ?_) 0
        clear y1 y2 nA
        by_cases hxy : x = y
        · have hb : (!x.toList == y.toList) = false := by rw [beq_str]; simp [hxy]
          rw [hb]
          go_wp2
          go_roundw
          case rel => exact ⟨k + 1, by go_num, by omega, by rw [HS.out, HS2.out, HT.out, hxy], hD.out⟩
          case measure => simp [intOf]; omega
        · have hb : (!x.toList == y.toList) = true := by rw [beq_str]; simp [hxy]
          rw [hb]
          go_wp2
          go_ret
          exact ⟨ret_bool (by rw [eq_comm, decide_eq_false_iff_not]; exact fun e => hxy (HG.out e)), hD.out⟩
      · go_wp2
        go_ret
        have := HT.out
        rw [List.take_of_length_le (by have := HN.out; omega), List.take_of_length_le (by have := HM.out; omega)] at this
        exact ⟨ret_bool (by rw [eq_comm, decide_eq_true_iff]; exact this), HE.out⟩
  · have hne : ((ss.length : Int) != (ts.length : Int)) = true := by rw [bne_iff_ne]; omega
    have HN : Hid (¬ ss = ts) := fun e => hl (by rw [e])
    clear hl a3 b3
    go_enter Tryz.func89, Tryz.ntmps89
    go_wp2
    go_ret
    exact ⟨ret_bool (by rw [eq_comm, decide_eq_false_iff_not]; exact HN.out), Ext.refl _⟩

set_option maxHeartbeats 1000000 in
theorem equalI_any (v1 v2 : Value) (ss ts : List Int) (w : World) (h1 : Rd w v1 (iv ss)) (h2 : Rd w v2 (iv ts)) :
    Calls Tryz.prog 90 #[v1, v2] w fun e w' => e = .returned (.bool (decide (ss = ts))) ∧ Ext w w' := by
  obtain ⟨ao, c, rfl, a1, a2, a3⟩ := h1
  obtain ⟨bo, d, rfl, b1, b2, b3⟩ := h2
  simp only [iv_length] at *
  unfold maxLen at a2 b2
  by_cases hl : ss.length = ts.length
  · have A3 : Hid (RdAt w ao c (iv ss)) := a3
    have B3 : Hid (RdAt w bo d (iv ts)) := b3
    obtain ⟨n, hn⟩ : ∃ n, ss.length = n := ⟨_, rfl⟩
    have hm : ts.length = n := by omega
    rw [hn] at a1 ⊢
    rw [hm] at b1 ⊢
    have HN : Hid (ss.length = n) := hn
    have HM : Hid (ts.length = n) := hm
    clear a3 b3 hl hn hm
    go_enter Tryz.func90, Tryz.ntmps90
    go_wp2
    go_loopw [5, 13] (fun _ i wr => ∃ k : Nat, i = .int .i64 k ∧ k ≤ n ∧ ss.take k = ts.take k ∧ Ext w wr) (fun _ i _ => n - (intOf i).toNat)
    case atStart => exact ⟨0, rfl, Nat.zero_le _, rfl, Ext.refl _⟩
    case round =>
      obtain ⟨k, rfl, hk, ht, hE⟩ := hrel
      have HT : Hid (ss.take k = ts.take k) := ht
      have HE : Hid (Ext w wr) := hE
      clear ht hE
      by_cases hlt : k < n
      · have hlt1 : k < ss.length := by have := HN.out; omega
        have hlt2 : k < ts.length := by have := HM.out; omega
        obtain ⟨ad, had⟩ := A3.out.ad (by rw [iv_length]; omega)
        obtain ⟨bd, hbd⟩ := B3.out.ad (by rw [iv_length]; omega)
        subst had hbd
        have hD : Hid (Ext w wr.drew) := Below.drew HE.out
        have y1 := cellX (W0 := wr.drew) ((Below.cell HE.out (cell_lt (A3.out.num rfl hlt1))).trans (A3.out.num rfl hlt1))
        have y2 := cellX (W0 := wr.drew) ((Below.cell HE.out (cell_lt (B3.out.num rfl hlt2))).trans (B3.out.num rfl hlt2))
        have HS : Hid (ss.take (k + 1) = ss.take k ++ [ss[k]]) := List.take_succ_eq_append_getElem hlt1
        have HS2 : Hid (ts.take (k + 1) = ts.take k ++ [ts[k]]) := List.take_succ_eq_append_getElem hlt2
        have HG : Hid (ss = ts → ss[k] = ts[k]) := fun e => by subst e; rfl
        generalize ss[k] = x at *
        generalize ts[k] = y at *
        haveI nA := cls_ext wr.drew
        go_wp2_with fail
        refine wp_region_ext (by kernel_rfl) ?_
        refine wpAnyH_seg (by kernel_rfl) (fun _ _ _ h => h) [0, 1, 2, 3, 4, 5, 6, 7, 8] 0 _ _ _ (Ext.refl _) (by kernel_rfl) ?_
        simp only [opsAt, List.getElem?_toArray, List.getElem?_cons_zero, List.getElem?_cons_succ, List.cons_append, List.nil_append]
        repeat (go_big_quiet_step (fail))
        refine wpQuiet_nil ?_
        refine wpAnyH_done (by kernel_rfl) (NoPanic.normal ?_) 0
        clear y1 y2 nA
        by_cases hxy : x = y
        · have hb : (x != y) = false := by simp [hxy]
          rw [hb]
          go_wp2
          go_roundw
          case rel => exact ⟨k + 1, by go_num, by omega, by rw [HS.out, HS2.out, HT.out, hxy], hD.out⟩
          case measure => simp [intOf]; omega
        · have hb : (x != y) = true := by simp [hxy]
          rw [hb]
          go_wp2
          go_ret
          exact ⟨ret_bool (by rw [eq_comm, decide_eq_false_iff_not]; exact fun e => hxy (HG.out e)), hD.out⟩
      · go_wp2
        go_ret
        have := HT.out
        rw [List.take_of_length_le (by have := HN.out; omega), List.take_of_length_le (by have := HM.out; omega)] at this
        exact ⟨ret_bool (by rw [eq_comm, decide_eq_true_iff]; exact this), HE.out⟩
  · have hne : ((ss.length : Int) != (ts.length : Int)) = true := by rw [bne_iff_ne]; omega
    have HN : Hid (¬ ss = ts) := fun e => hl (by rw [e])
    clear hl a3 b3
    go_enter Tryz.func90, Tryz.ntmps90
    go_wp2
    go_ret
    exact ⟨ret_bool (by rw [eq_comm, decide_eq_false_iff_not]; exact HN.out), Ext.refl _⟩

end Go.Proofs.YtbgofajldkblmaaGreat

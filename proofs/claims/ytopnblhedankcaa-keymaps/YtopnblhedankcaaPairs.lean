/- Maps of keys as slices of pairs: what a value reads as, what a call owns; the Go texts of key.Map's find and around. Own lemmas, no statement. -/
import Derived.Test.YtopnblhedankcaaSearch
import Derived.Test.YtopnblhedankcaaOrder
namespace Go.Proofs.Ytopnblhedankcaa
open Go.ChangeShapes Go.WideShapes Go.ChangeAt Go.RowKit

def pv (m : List KV) : List Value := m.flatMap fun p => [.string p.1, .string p.2]
theorem pv_append (l m : List KV) : pv (l ++ m) = pv l ++ pv m := by simp [pv]
theorem pv_length (m : List KV) : (pv m).length = m.length * 2 := by
  induction m with
  | nil => rfl
  | cons p t ih => simp [pv] at ih ⊢; omega
theorem pv_one (m : List KV) : ∀ u ∈ pv m, u.oneCell' = true := by
  intro u hu
  simp only [pv, List.mem_flatMap] at hu
  obtain ⟨p, _, hp⟩ := hu
  simp at hp
  rcases hp with rfl | rfl <;> rfl
theorem pv_at (m : List KV) : ∀ (i : Nat) (h : i < m.length), (pv m)[i * 2]? = some (.string m[i].1) ∧ (pv m)[i * 2 + 1]? = some (.string m[i].2) := by
  induction m with
  | nil => intro i h; simp at h
  | cons p t ih =>
    intro i h
    cases i with
    | zero => exact ⟨rfl, rfl⟩
    | succ i =>
      have := ih i (by simpa using h)
      rw [show (i + 1) * 2 = i * 2 + 2 by omega]
      exact this

def PairsAt (w : World) (ao : Option Addr) (c : Nat) (m : List KV) : Prop :=
  (ao = none → m = [] ∧ c = 0) ∧ ∀ ad, ao = some ad → ∀ j u, (pv m)[j]? = some u → w.cell? (ad.add j) = some u
def Pairs (w : World) (v : Value) (m : List KV) : Prop := ∃ ao c, v = .slice ao m.length c ∧ m.length ≤ c ∧ c ≤ maxLen ∧ PairsAt w ao c m

theorem Pairs.below {w w' : World} {v : Value} {m : List KV} (h : Pairs w v m) (hb : Below w.heap.size w w') : Pairs w' v m := by
  obtain ⟨ao, c, rfl, h1, h2, h3, h4⟩ := h
  exact ⟨ao, c, rfl, h1, h2, h3, fun ad had j u hu => by rw [hb.cell (cell_lt (h4 ad had j u hu))]; exact h4 ad had j u hu⟩
theorem Pairs.at {w : World} {ao : Option Addr} {n c : Nat} {l : List KV} (h : Pairs w (.slice ao n c) l) : n = l.length ∧ l.length ≤ c ∧ c ≤ maxLen ∧ PairsAt w ao c l := by
  obtain ⟨ao', c', he, h1, h2, h3⟩ := h
  simp only [Value.slice.injEq] at he
  obtain ⟨rfl, rfl, rfl⟩ := he
  exact ⟨rfl, h1, h2, h3⟩

theorem cellE {W0 : World} {a : Addr} {v : Value} (h : W0.cell? a = some v) : ∀ s : Cls (Ext W0), s.wd.cell? a = some v := fun s => (Below.cell s.ok (cell_lt h)).trans h

set_option maxHeartbeats 1000000 in
theorem find1_any (i : Nat) (b1 b2 : Nat) (ad : Addr) (n c : Nat) (m : List KV) (k : ByteArray) (w : World) (h1 : w.cell? ⟨b1, 0, none⟩ = some (.slice (some ad) n c)) (h2 : w.cell? ⟨b2, 0, none⟩ = some (.string k)) (hp : Pairs w (.slice (some ad) n c) m) (hi : i < m.length) :
    Calls Try.prog 46 #[.int .i64 (i : Int), .pointer (some ⟨b1, 0, none⟩), .pointer (some ⟨b2, 0, none⟩)] w fun e w' => e = .returned (.bool (!(ltK m[i].1 k))) ∧ Ext w w' := by
  obtain ⟨rfl, hc, hm, h3⟩ := hp.at
  have hcell := h3.2 ad rfl (i * 2) _ (pv_at m i hi).1
  unfold maxLen at hm
  clear h3 hp
  have k1 := cellE (W0 := w.drew) h1
  have k2 := cellE (W0 := w.drew) h2
  have k3 := cellE (W0 := w.drew) hcell
  clear h1 h2 hcell
  haveI n1 := cls_ext w.drew
  go_enter Try.func46, Try.ntmps46
  go_wp2
  refine wp_region_ext (by kernel_rfl) ?_
  refine wpAnyH_seg (by kernel_rfl) (fun _ _ _ h => h) [0, 1, 2, 3, 4, 5, 6, 7] 0 _ _ _ (Ext.refl _) (by kernel_rfl) ?_
  simp only [opsAt, List.getElem?_toArray, List.getElem?_cons_zero, List.getElem?_cons_succ, List.cons_append, List.nil_append]
  repeat (go_big_quiet_step (fail))
  refine wpQuiet_nil ?_
  refine wpAnyH_done (by kernel_rfl) (NoPanic.normal ?_) 0
  clear k1 k2 k3 n1
  go_wp2
  go_ret
  exact ⟨rfl, (Below.refl _ w).drew⟩

set_option maxHeartbeats 2000000 in
theorem find_any (ao : Option Addr) (n c : Nat) (m : List KV) (k : ByteArray) (w : World) (hp : Pairs w (.slice ao n c) m) (hr : Rising m) (hn : m.length ≤ 4611686018427387904) :
    Calls Try.prog 42 #[.slice ao n c, .string k] w fun e w' => e = .returned (.tuple #[.int .i64 (idx k m : Nat), .bool (hasK k m)]) ∧ Ext w w' := by
  obtain ⟨rfl, hc, hm, h3⟩ := hp.at
  have hB2 : Ext w ((w.alloc (.cells #[.slice ao m.length c] 60)).alloc (.cells #[.string k] 9)) := ((Below.refl _ _).alloc (Nat.le_refl _) _).alloc (by simp) _
  have c1 : ((w.alloc (.cells #[.slice ao m.length c] 60)).alloc (.cells #[.string k] 9)).cell? ⟨w.heap.size, 0, none⟩ = some (.slice ao m.length c) := by go_simp
  have c2 : ((w.alloc (.cells #[.slice ao m.length c] 60)).alloc (.cells #[.string k] 9)).cell? ⟨w.heap.size + 1, 0, none⟩ = some (.string k) := by go_simp
  have hp2 := Pairs.below hp hB2
  have hf : Hid (∀ (W : World) (i : Nat), Ext ((w.alloc (.cells #[.slice ao m.length c] 60)).alloc (.cells #[.string k] 9)) W → i < m.length → Calls Try.prog 46 #[.int .i64 (i : Int), .pointer (some ⟨w.heap.size, 0, none⟩), .pointer (some ⟨w.heap.size + 1, 0, none⟩)] W fun e w' => e = .returned (.bool (match m[i]? with | some p => !(ltK p.1 k) | none => false)) ∧ Ext W w') := by
    intro W i hW hi
    cases ao with
    | none => have := (h3.1 rfl).1; subst this; simp at hi
    | some ad =>
      have := find1_any i w.heap.size (w.heap.size + 1) ad m.length c m k W ((Below.cell hW (cell_lt c1)).trans c1) ((Below.cell hW (cell_lt c2)).trans c2) (hp2.below hW) hi
      rw [List.getElem?_eq_getElem hi]
      exact this
  have hmono : Hid (∀ a b, a ≤ b → b < m.length → (match m[a]? with | some p => !(ltK p.1 k) | none => false) = true → (match m[b]? with | some p => !(ltK p.1 k) | none => false) = true) := by
    intro a b hab hb ha
    rw [List.getElem?_eq_getElem (by omega)] at ha
    rw [List.getElem?_eq_getElem hb]
    simp at ha ⊢
    rcases (show a = b ∨ a < b by omega) with rfl | hlt
    · exact ha
    · cases h : ltK m[b].1 k with
      | false => rfl
      | true => rw [ltK_trans (rising_get hr hlt hb) h] at ha; cases ha
  have H3 : Hid (PairsAt w ao c m) := h3
  have HP : Hid (Pairs _ _ _) := hp2
  have HP0 : Hid (Pairs w (.slice ao m.length c) m) := hp
  have HR : Hid (Rising m) := hr
  have C1 : Hid (_ = _) := c1
  have C2 : Hid (_ = _) := c2
  clear h3 hp2 hp hr c1 c2
  unfold maxLen at hm
  go_enter Try.func42, Try.ntmps42
  go_wp2_with fail
  refine (search_any m.length (.pointer (some ⟨w.heap.size, 0, none⟩)) (.pointer (some ⟨w.heap.size + 1, 0, none⟩)) (fun i => match m[i]? with | some p => !(ltK p.1 k) | none => false) _ hn hf hmono).mono ?_
  rintro e w2 ⟨r, rfl, hrn, hr1, hr2, hE2⟩
  have hidx : idx k m = r := by
    refine idx_of k m r hrn (fun j hj hjr => ?_) (fun hj => ?_)
    · have := hr1 j hjr
      rw [List.getElem?_eq_getElem hj] at this
      simpa using this
    · have := hr2 r (Nat.le_refl _) hj
      rw [List.getElem?_eq_getElem hj] at this
      simpa using this
  clear hr1 hr2 hf hmono
  have hhas := hasK_at k m
  rw [hidx] at hhas
  have HI : Hid (idx k m = r) := hidx
  have HH : Hid (_ = _) := hhas
  have HEE : Hid (Ext w w2.drew) := (hB2.trans hE2).drew
  clear hhas hidx
  have k1 := cellE (W0 := w2.drew) ((Below.cell hE2 (cell_lt C1.out)).trans C1.out)
  have k2 := cellE (W0 := w2.drew) ((Below.cell hE2 (cell_lt C2.out)).trans C2.out)
  have hpw := HP.out.below hE2
  clear HP HP0 C1 C2
  haveI n1 := cls_ext w2.drew
  by_cases hlt : r < m.length
  · have hd : decide ((r : Int) < (m.length : Int)) = true := by simp; omega
    obtain ⟨ad, rfl⟩ : ∃ ad, ao = some ad := by
      cases ao with
      | none => have := (H3.out.1 rfl).1; subst this; simp at hlt
      | some ad => exact ⟨ad, rfl⟩
    have k3 := cellE (W0 := w2.drew) (hpw.at.2.2.2.2 ad rfl (r * 2) _ (pv_at m r hlt).1)
    have hh := HH.out
    rw [List.getElem?_eq_getElem hlt] at hh
    simp only at hh
    have H5 : Hid (hasK k m = _) := hh
    clear hpw HH hh hE2 hB2 H3
    go_wp2_with fail
    refine wp_region_ext (by kernel_rfl) ?_
    refine wpAnyH_seg (by kernel_rfl) (fun _ _ _ h => h) [0, 1, 2, 3, 4, 5, 6, 7, 8, 9, 10, 11, 12, 13, 14, 15] 0 _ _ _ (Ext.refl _) (by kernel_rfl) ?_
    simp only [opsAt, List.getElem?_toArray, List.getElem?_cons_zero, List.getElem?_cons_succ, List.cons_append, List.nil_append]
    repeat (go_big_quiet_step (fail))
    refine wpQuiet_nil ?_
    refine wpAnyH_done (by kernel_rfl) (NoPanic.normal ?_) 0
    clear k1 k2 k3 n1
    go_wp2
    go_ret2
    exact ⟨by rw [HI.out, H5.out]; rfl, HEE.out⟩
  · have hd : decide ((r : Int) < (m.length : Int)) = false := by simp; omega
    have hh := HH.out
    rw [List.getElem?_eq_none (by omega)] at hh
    simp only at hh
    have H5 : Hid (hasK k m = _) := hh
    clear hpw HH hh hE2 hB2 H3
    go_wp2_with fail
    refine wp_region_ext (by kernel_rfl) ?_
    refine wpAnyH_seg (by kernel_rfl) (fun _ _ _ h => h) [0, 1, 2, 3, 4, 5, 6, 7, 8, 9, 10, 11, 12, 13, 14, 15] 0 _ _ _ (Ext.refl _) (by kernel_rfl) ?_
    simp only [opsAt, List.getElem?_toArray, List.getElem?_cons_zero, List.getElem?_cons_succ, List.cons_append, List.nil_append]
    repeat (go_big_quiet_step (fail))
    refine wpQuiet_nil ?_
    refine wpAnyH_done (by kernel_rfl) (NoPanic.normal ?_) 0
    clear k1 k2 n1
    go_wp2
    go_ret2
    exact ⟨by rw [HI.out, H5.out]; rfl, HEE.out⟩
end Go.Proofs.Ytopnblhedankcaa

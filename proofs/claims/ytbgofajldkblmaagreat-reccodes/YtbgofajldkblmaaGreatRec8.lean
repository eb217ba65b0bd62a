/- rec: small, text, flag, all. Own lemmas, no statement. -/
import Derived.Test.YtbgofajldkblmaaGreatRec6
set_option linter.unusedSimpArgs false
set_option linter.unusedVariables false
namespace Go.Proofs.YtbgofajldkblmaaGreat
open Go.ChangeShapes Go.WideShapes Go.ChangeAt Go.RowKit

/-- What a call hands back: bytes in memory of its own, or nil. -/
def OwnP (w : World) (l : List UInt8) (e : Ending) (w' : World) : Prop := ∃ ao n c, e = .returned (.slice ao n c) ∧ Own w' w.heap.size (.slice ao n c) l ∧ Below w.heap.size w w'
theorem ownP_of {w w' : World} {l : List UInt8} {e : Ending} {v : Value} (he : e = .returned v) (ho : Own w' w.heap.size v l) (y : Below w.heap.size w w') : OwnP w l e w' := by
  obtain ⟨a, c, hv, _⟩ := ho.src
  subst hv
  exact ⟨_, _, _, he, ho, y⟩
theorem gives_ownP {w w' : World} {l : List UInt8} {e : Ending} (h : Gives w l e w') : OwnP w l e w' := by
  obtain ⟨g, c, he, ho, y⟩ := h
  exact ⟨_, _, _, he, ho, y⟩
theorem small_any (n : Int) (N : Nat) (w : World) (hn : IntKind.u64.wrap n = (N : Int)) (hN : N < 18446744073709551616) : Calls Tryz.prog 50 #[.int .i64 n] w (OwnP w (enc N)) := by
  have HP : Hid (Calls Tryz.prog 15 #[.int .u64 (N : Int)] w (Gives w (enc N))) := number_any N w hN
  go_enter Tryz.func50, Tryz.ntmps50
  go_wp2_with fail
  refine HP.out.mono ?_
  rintro e w1 ⟨g, cap, rfl, ho, y⟩
  have HO : Hid (OwnP w (enc N) _ w1) := gives_ownP ⟨g, cap, rfl, ho, y⟩
  clear ho y
  go_wp2
  go_ret
  exact HO.out
theorem text8_any (s : ByteArray) (w : World) (hs : s.size < 800000000000) : Calls Tryz.prog 45 #[.string s] w (OwnP w (enc s.size ++ s.data.toList)) := by
  have HP : Hid (Calls Tryz.prog 27 #[.slice none 0 0, .string s] w (Gives w (enc s.size ++ s.data.toList))) := text_any none 0 0 [] s w (Src.nil w) (by simp; omega)
  generalize enc s.size ++ s.data.toList = L at *
  go_enter Tryz.func45, Tryz.ntmps45
  go_wp2_with fail
  refine HP.out.mono ?_
  rintro e w1 ⟨g, cap, rfl, ho, y⟩
  have HO : Hid (OwnP w L _ w1) := gives_ownP ⟨g, cap, rfl, ho, y⟩
  clear ho y
  go_wp2
  go_ret
  exact HO.out
def flagN (b : Bool) : Nat := if b then 1 else 0
theorem flag8_any (b : Bool) (w : World) : Calls Tryz.prog 46 #[.bool b] w (OwnP w (enc (flagN b))) := by
  have H0 : Hid (Calls Tryz.prog 15 #[.int .u64 0] w (Gives w (enc 0))) := number_any 0 w (by omega)
  have H1 : Hid (Calls Tryz.prog 15 #[.int .u64 1] w (Gives w (enc 1))) := number_any 1 w (by omega)
  go_enter Tryz.func46, Tryz.ntmps46
  cases b with
  | true =>
    go_wp2_with fail
    refine H1.out.mono ?_
    rintro e w1 ⟨g, cap, rfl, ho, y⟩
    have HO : Hid (OwnP w (enc 1) _ w1) := gives_ownP ⟨g, cap, rfl, ho, y⟩
    clear ho y
    go_wp2
    go_ret
    exact HO.out
  | false =>
    go_wp2_with fail
    refine H0.out.mono ?_
    rintro e w1 ⟨g, cap, rfl, ho, y⟩
    have HO : Hid (OwnP w (enc 0) _ w1) := gives_ownP ⟨g, cap, rfl, ho, y⟩
    clear ho y
    go_wp2
    go_ret
    exact HO.out
/-- A list's bytes; of so many of its elements. -/
def partB {α : Type} (f : α → List UInt8) (l : List α) (k : Nat) : List UInt8 := enc l.length ++ ((l.take k).map f).flatten
def allB8 {α : Type} (f : α → List UInt8) (l : List α) : List UInt8 := enc l.length ++ (l.map f).flatten
theorem all_take {α : Type} (f : α → List UInt8) {l : List α} {k : Nat} (h : k < l.length) : partB f l (k + 1) = join (partB f l k) (f l[k]) := by
  unfold partB
  rw [List.take_succ_eq_append_getElem h, List.map_append, List.flatten_append]
  simp [join]
theorem all_le {α : Type} (f : α → List UInt8) (l : List α) (k : Nat) : (partB f l k).length ≤ (allB8 f l).length := by
  unfold allB8 partB
  have : (l.map f).flatten = ((l.take k).map f).flatten ++ ((l.drop k).map f).flatten := by rw [← List.flatten_append, ← List.map_append, List.take_append_drop]
  rw [this]; simp

set_option maxRecDepth 100000 in
set_option maxHeartbeats 4000000 in
theorem allS_any (v : Value) (l : List ByteArray) (f : ByteArray → List UInt8) (w : World) (h : Rd w v (sv l)) (hl : l.length ≤ 100000) (hfl : (allB8 f l).length < 100000000000)
    (hf : ∀ W x, Below w.heap.size w W → x ∈ l → Calls Tryz.prog 45 #[.string x] W (OwnP W (f x))) :
    Calls Tryz.prog 48 #[v, .func (.func 45) #[] #[]] w (OwnP w (allB8 f l)) := by
  obtain ⟨n, ao, c, rfl⟩ := h.any2
  have hn : n = l.length := by have := h.at.1; rw [sv_length] at this; exact this
  have HRW : Hid (Rd w (.slice ao n c) (sv l)) := h
  have HN : Hid (l.length = n) := hn.symm
  have hn5 : n ≤ 100000 := by omega
  have HF : Hid (∀ W x, Below w.heap.size w W → x ∈ l → Calls Tryz.prog 45 #[.string x] W (OwnP W (f x))) := hf
  have HLE : Hid (∀ k, (partB f l k).length < 100000000000) := fun k => Nat.lt_of_le_of_lt (all_le f l k) hfl
  have HSM : Hid (Calls Tryz.prog 50 #[.int .i64 (n : Int)] w (OwnP w (enc l.length))) := by rw [← hn]; exact small_any n n w (by rw [IntKind.wrap_u64]; omega) (by omega)
  have HAL : Hid (partB f l l.length = allB8 f l) := by show _ = _; unfold partB; rw [List.take_of_length_le (Nat.le_refl _)]; rfl
  clear h hn hf hfl hl
  go_enter Tryz.func48, Tryz.ntmps48
  go_wp2_with fail
  refine HSM.out.mono ?_
  rintro e w1 ⟨a1_, n1, c1, rfl, ho, y⟩
  have HO : Hid (Own w1 w.heap.size (.slice a1_ n1 c1) (partB f l 0)) := by show Own _ _ _ _; unfold partB; simpa using ho
  have HY : Hid (Below w.heap.size w w1) := y
  clear ho y HSM
  go_wp2
  go_loopw [5, 13] (fun v i wr => ∃ k : Nat, i = .int .i64 k ∧ k ≤ n ∧ Own wr w.heap.size v (partB f l k) ∧ Below w.heap.size w wr) (fun _ i _ => n - (intOf i).toNat)
  case atStart => exact ⟨0, rfl, Nat.zero_le _, HO.out, HY.out⟩
  case round =>
    obtain ⟨k, rfl, hk, ho, y⟩ := hrel
    clear HO HY
    have HO : Hid (Own wr w.heap.size _ (partB f l k)) := ho
    have HY : Hid (Below w.heap.size w wr) := y
    clear ho y
    by_cases hlt : k < n
    · have hkl : k < l.length := by rw [HN.out]; exact hlt
      have hi2 : (k : Int) < (n : Int) := by omega
      have HS : Hid (partB f l (k + 1) = join (partB f l k) (f l[k])) := all_take f hkl
      have HLB : Hid ((partB f l k).length + (f l[k]).length < 1099511627776) := by
        have := HLE.out (k + 1)
        rw [HS.out, show (join (partB f l k) (f l[k])).length = (partB f l k).length + (f l[k]).length by unfold join; rw [List.length_append]] at this
        show _ < _
        omega
      have HM : Hid (l[k] ∈ l) := List.getElem_mem _
      obtain ⟨ad, had⟩ := HRW.out.at.2.2.2.ad (by rw [sv_length]; omega)
      subst had
      have y1 : wr.cell? (ad.add k) = some (.string l[k]) := (HRW.out.below HY.out).at.2.2.2.str rfl hkl
      generalize l[k] = x at *
      go_wp2_with fail
      refine (HF.out wr x HY.out HM.out).mono ?_
      rintro e w3 ⟨a3, n3, c3, rfl, ho, y⟩
      have HSR : Hid (Src w3 (.slice a3 n3 c3) (f x)) := ho.src
      have HO3 : Hid (Own w3 w.heap.size _ (partB f l k)) := HO.out.below y
      have HY3 : Hid (Below w.heap.size w w3) := ext_trans HY.out y
      clear ho y y1 HO HY
      have HSZ : Hid (w.heap.size ≤ w3.heap.size) := HY3.out.size
      go_wp2_with (at_builtin; refine wpList_join w3 rfl _ _ rfl w.heap.size _ (partB f l k) (f x) HO3.out rfl _ HSR.out rfl HLB.out HSZ.out ?_)
      intro v' w' ho hg _
      have HO4 : Hid (Own w' w.heap.size v' (partB f l (k + 1))) := by rw [HS.out]; exact ho
      have HY4 : Hid (Below w.heap.size w w') := HY3.out.grown hg HSZ.out (fun g e => (World.ownsRow.lt HO3.out g e).1)
      clear ho hg
      go_wp2
      go_roundw
      case rel => exact ⟨k + 1, by go_num, hlt, HO4.out, HY4.out⟩
      case measure => simp [intOf]; omega
    · have hkn : k = l.length := by rw [HN.out]; omega
      have HE : Hid (partB f l k = allB8 f l) := by rw [hkn]; exact HAL.out
      rw [HE.out] at HO
      clear hkn hk
      go_wp2
      go_ret
      exact ownP_of rfl HO.out HY.out

set_option maxRecDepth 100000 in
set_option maxHeartbeats 4000000 in
theorem allI_any (v : Value) (l : List Int) (f : Int → List UInt8) (w : World) (h : Rd w v (iv l)) (hl : l.length ≤ 100000) (hfl : (allB8 f l).length < 100000000000)
    (hf : ∀ W x, Below w.heap.size w W → x ∈ l → Calls Tryz.prog 50 #[.int .i64 x] W (OwnP W (f x))) :
    Calls Tryz.prog 49 #[v, .func (.func 50) #[] #[]] w (OwnP w (allB8 f l)) := by
  obtain ⟨n, ao, c, rfl⟩ := h.any2
  have hn : n = l.length := by have := h.at.1; rw [iv_length] at this; exact this
  have HRW : Hid (Rd w (.slice ao n c) (iv l)) := h
  have HN : Hid (l.length = n) := hn.symm
  have hn5 : n ≤ 100000 := by omega
  have HF : Hid (∀ W x, Below w.heap.size w W → x ∈ l → Calls Tryz.prog 50 #[.int .i64 x] W (OwnP W (f x))) := hf
  have HLE : Hid (∀ k, (partB f l k).length < 100000000000) := fun k => Nat.lt_of_le_of_lt (all_le f l k) hfl
  have HSM : Hid (Calls Tryz.prog 50 #[.int .i64 (n : Int)] w (OwnP w (enc l.length))) := by rw [← hn]; exact small_any n n w (by rw [IntKind.wrap_u64]; omega) (by omega)
  have HAL : Hid (partB f l l.length = allB8 f l) := by show _ = _; unfold partB; rw [List.take_of_length_le (Nat.le_refl _)]; rfl
  clear h hn hf hfl hl
  go_enter Tryz.func49, Tryz.ntmps49
  go_wp2_with fail
  refine HSM.out.mono ?_
  rintro e w1 ⟨a1_, n1, c1, rfl, ho, y⟩
  have HO : Hid (Own w1 w.heap.size (.slice a1_ n1 c1) (partB f l 0)) := by show Own _ _ _ _; unfold partB; simpa using ho
  have HY : Hid (Below w.heap.size w w1) := y
  clear ho y HSM
  go_wp2
  go_loopw [5, 13] (fun v i wr => ∃ k : Nat, i = .int .i64 k ∧ k ≤ n ∧ Own wr w.heap.size v (partB f l k) ∧ Below w.heap.size w wr) (fun _ i _ => n - (intOf i).toNat)
  case atStart => exact ⟨0, rfl, Nat.zero_le _, HO.out, HY.out⟩
  case round =>
    obtain ⟨k, rfl, hk, ho, y⟩ := hrel
    clear HO HY
    have HO : Hid (Own wr w.heap.size _ (partB f l k)) := ho
    have HY : Hid (Below w.heap.size w wr) := y
    clear ho y
    by_cases hlt : k < n
    · have hkl : k < l.length := by rw [HN.out]; exact hlt
      have hi2 : (k : Int) < (n : Int) := by omega
      have HS : Hid (partB f l (k + 1) = join (partB f l k) (f l[k])) := all_take f hkl
      have HLB : Hid ((partB f l k).length + (f l[k]).length < 1099511627776) := by
        have := HLE.out (k + 1)
        rw [HS.out, show (join (partB f l k) (f l[k])).length = (partB f l k).length + (f l[k]).length by unfold join; rw [List.length_append]] at this
        show _ < _
        omega
      have HM : Hid (l[k] ∈ l) := List.getElem_mem _
      obtain ⟨ad, had⟩ := HRW.out.at.2.2.2.ad (by rw [iv_length]; omega)
      subst had
      have y1 : wr.cell? (ad.add k) = some (.int .i64 l[k]) := (HRW.out.below HY.out).at.2.2.2.num rfl hkl
      generalize l[k] = x at *
      go_wp2_with fail
      refine (HF.out wr x HY.out HM.out).mono ?_
      rintro e w3 ⟨a3, n3, c3, rfl, ho, y⟩
      have HSR : Hid (Src w3 (.slice a3 n3 c3) (f x)) := ho.src
      have HO3 : Hid (Own w3 w.heap.size _ (partB f l k)) := HO.out.below y
      have HY3 : Hid (Below w.heap.size w w3) := ext_trans HY.out y
      clear ho y y1 HO HY
      have HSZ : Hid (w.heap.size ≤ w3.heap.size) := HY3.out.size
      go_wp2_with (at_builtin; refine wpList_join w3 rfl _ _ rfl w.heap.size _ (partB f l k) (f x) HO3.out rfl _ HSR.out rfl HLB.out HSZ.out ?_)
      intro v' w' ho hg _
      have HO4 : Hid (Own w' w.heap.size v' (partB f l (k + 1))) := by rw [HS.out]; exact ho
      have HY4 : Hid (Below w.heap.size w w') := HY3.out.grown hg HSZ.out (fun g e => (World.ownsRow.lt HO3.out g e).1)
      clear ho hg
      go_wp2
      go_roundw
      case rel => exact ⟨k + 1, by go_num, hlt, HO4.out, HY4.out⟩
      case measure => simp [intOf]; omega
    · have hkn : k = l.length := by rw [HN.out]; omega
      have HE : Hid (partB f l k = allB8 f l) := by rw [hkn]; exact HAL.out
      rw [HE.out] at HO
      clear hkn hk
      go_wp2
      go_ret
      exact ownP_of rfl HO.out HY.out

set_option maxRecDepth 100000 in
set_option maxHeartbeats 4000000 in
theorem allO_any (v : Value) (l : List OpenV) (f : OpenV → List UInt8) (w : World) (h : RowsN w 7 OpenV.c v l) (hl : l.length ≤ 100000) (hfl : (allB8 f l).length < 100000000000)
    (hf : ∀ W x, Below w.heap.size w W → x ∈ l → Calls Tryz.prog 52 #[.agg #[.int .u64 x.num, .int .i64 x.node, .int .u64 x.last, .int .u64 x.first, .int .i64 x.count, .bool x.ready, .slice x.ra x.rn x.rc]] W (OwnP W (f x))) :
    Calls Tryz.prog 51 #[v, .func (.func 52) #[] #[]] w (OwnP w (allB8 f l)) := by
  obtain ⟨n, ao, c, rfl⟩ := h.any
  obtain ⟨hn, a1, a2⟩ := h.len
  have HRW : Hid (RowsN w 7 OpenV.c (.slice ao n c) l) := h
  have HN : Hid (l.length = n) := hn.symm
  have hn5 : n ≤ 100000 := by omega
  have HF : Hid (∀ W x, Below w.heap.size w W → x ∈ l → Calls Tryz.prog 52 #[.agg #[.int .u64 x.num, .int .i64 x.node, .int .u64 x.last, .int .u64 x.first, .int .i64 x.count, .bool x.ready, .slice x.ra x.rn x.rc]] W (OwnP W (f x))) := hf
  have HLE : Hid (∀ k, (partB f l k).length < 100000000000) := fun k => Nat.lt_of_le_of_lt (all_le f l k) hfl
  have HSM : Hid (Calls Tryz.prog 50 #[.int .i64 (n : Int)] w (OwnP w (enc l.length))) := by rw [← hn]; exact small_any n n w (by rw [IntKind.wrap_u64]; omega) (by omega)
  have HAL : Hid (partB f l l.length = allB8 f l) := by show _ = _; unfold partB; rw [List.take_of_length_le (Nat.le_refl _)]; rfl
  clear h hn hf hfl hl
  go_enter Tryz.func51, Tryz.ntmps51
  go_wp2_with fail
  refine HSM.out.mono ?_
  rintro e w1 ⟨a1_, n1, c1, rfl, ho, y⟩
  have HO : Hid (Own w1 w.heap.size (.slice a1_ n1 c1) (partB f l 0)) := by show Own _ _ _ _; unfold partB; simpa using ho
  have HY : Hid (Below w.heap.size w w1) := y
  clear ho y HSM
  go_wp2
  go_loopw [5, 13] (fun v i wr => ∃ k : Nat, i = .int .i64 k ∧ k ≤ n ∧ Own wr w.heap.size v (partB f l k) ∧ Below w.heap.size w wr) (fun _ i _ => n - (intOf i).toNat)
  case atStart => exact ⟨0, rfl, Nat.zero_le _, HO.out, HY.out⟩
  case round =>
    obtain ⟨k, rfl, hk, ho, y⟩ := hrel
    clear HO HY
    have HO : Hid (Own wr w.heap.size _ (partB f l k)) := ho
    have HY : Hid (Below w.heap.size w wr) := y
    clear ho y
    by_cases hlt : k < n
    · have hkl : k < l.length := by rw [HN.out]; exact hlt
      have hi2 : (k : Int) < (n : Int) := by omega
      have HS : Hid (partB f l (k + 1) = join (partB f l k) (f l[k])) := all_take f hkl
      have HLB : Hid ((partB f l k).length + (f l[k]).length < 1099511627776) := by
        have := HLE.out (k + 1)
        rw [HS.out, show (join (partB f l k) (f l[k])).length = (partB f l k).length + (f l[k]).length by unfold join; rw [List.length_append]] at this
        show _ < _
        omega
      have HM : Hid (l[k] ∈ l) := List.getElem_mem _
      obtain ⟨ad, had⟩ := RowsN.adr HRW.out (by omega)
      subst had
      have HH : Hid (RowsN wr 7 OpenV.c (.slice (some ad) n c) l) := HRW.out.below HY.out
      have e0 : wr.cell? (ad.add (k * 7)) = some _ := HH.out.at0 hkl rfl
      have e1 : wr.cell? ⟨(ad.add (k * 7)).block, (ad.add (k * 7)).off + 1, none⟩ = some _ := HH.out.atS hkl 0 rfl
      have e2 : wr.cell? ⟨(ad.add (k * 7)).block, (ad.add (k * 7)).off + 2, none⟩ = some _ := HH.out.atS hkl 1 rfl
      have e3 : wr.cell? ⟨(ad.add (k * 7)).block, (ad.add (k * 7)).off + 3, none⟩ = some _ := HH.out.atS hkl 2 rfl
      have e4 : wr.cell? ⟨(ad.add (k * 7)).block, (ad.add (k * 7)).off + 4, none⟩ = some _ := HH.out.atS hkl 3 rfl
      have e5 : wr.cell? ⟨(ad.add (k * 7)).block, (ad.add (k * 7)).off + 5, none⟩ = some _ := HH.out.atS hkl 4 rfl
      have e6 : wr.cell? ⟨(ad.add (k * 7)).block, (ad.add (k * 7)).off + 6, none⟩ = some _ := HH.out.atS hkl 5 rfl
      generalize l[k] = x at *
      have HB1 : Hid (Blk (wr.alloc (.cells #[.int .u64 x.num, .int .i64 x.node, .int .u64 x.last, .int .u64 x.first, .int .i64 x.count, .bool x.ready, .slice x.ra x.rn x.rc] 45)) wr.heap.size #[.int .u64 x.num, .int .i64 x.node, .int .u64 x.last, .int .u64 x.first, .int .i64 x.count, .bool x.ready, .slice x.ra x.rn x.rc] 45) := Blk.new _ _ _
      have HY1 : Hid (Below w.heap.size w (wr.alloc (.cells #[.int .u64 x.num, .int .i64 x.node, .int .u64 x.last, .int .u64 x.first, .int .i64 x.count, .bool x.ready, .slice x.ra x.rn x.rc] 45))) := HY.out.alloc HY.out.size _
      have HO1 : Hid (Own (wr.alloc (.cells #[.int .u64 x.num, .int .i64 x.node, .int .u64 x.last, .int .u64 x.first, .int .i64 x.count, .bool x.ready, .slice x.ra x.rn x.rc] 45)) w.heap.size _ (partB f l k)) := HO.out.below (below_allocR _)
      go_upto_region 5 with fail
      clear e0 e1 e2 e3 e4 e5 e6 HH HO HY
      generalize wr.alloc (.cells #[.int .u64 x.num, .int .i64 x.node, .int .u64 x.last, .int .u64 x.first, .int .i64 x.count, .bool x.ready, .slice x.ra x.rn x.rc] 45) = w2 at *
      obtain ⟨b, hbb⟩ : ∃ b, wr.heap.size = b := ⟨_, rfl⟩
      rw [hbb] at HB1 ⊢
      clear hbb
      have z0 : w2.cell? ⟨b, 0, none⟩ = some _ := HB1.out.cell 0
      have z1 : w2.cell? ⟨b, 1, none⟩ = some _ := HB1.out.cell 1
      have z2 : w2.cell? ⟨b, 2, none⟩ = some _ := HB1.out.cell 2
      have z3 : w2.cell? ⟨b, 3, none⟩ = some _ := HB1.out.cell 3
      have z4 : w2.cell? ⟨b, 4, none⟩ = some _ := HB1.out.cell 4
      have z5 : w2.cell? ⟨b, 5, none⟩ = some _ := HB1.out.cell 5
      have z6 : w2.cell? ⟨b, 6, none⟩ = some _ := HB1.out.cell 6
      go_wp2_with fail
      refine (HF.out w2 x HY1.out HM.out).mono ?_
      rintro e w3 ⟨a3, n3, c3, rfl, ho, y⟩
      have HSR : Hid (Src w3 (.slice a3 n3 c3) (f x)) := ho.src
      have HO3 : Hid (Own w3 w.heap.size _ (partB f l k)) := HO1.out.below y
      have HY3 : Hid (Below w.heap.size w w3) := ext_trans HY1.out y
      clear ho y z0 z1 z2 z3 z4 z5 z6 HO1 HY1 HB1
      have HSZ : Hid (w.heap.size ≤ w3.heap.size) := HY3.out.size
      go_wp2_with (at_builtin; refine wpList_join w3 rfl _ _ rfl w.heap.size _ (partB f l k) (f x) HO3.out rfl _ HSR.out rfl HLB.out HSZ.out ?_)
      intro v' w' ho hg _
      have HO4 : Hid (Own w' w.heap.size v' (partB f l (k + 1))) := by rw [HS.out]; exact ho
      have HY4 : Hid (Below w.heap.size w w') := HY3.out.grown hg HSZ.out (fun g e => (World.ownsRow.lt HO3.out g e).1)
      clear ho hg
      go_wp2
      go_roundw
      case rel => exact ⟨k + 1, by go_num, hlt, HO4.out, HY4.out⟩
      case measure => simp [intOf]; omega
    · have hkn : k = l.length := by rw [HN.out]; omega
      have HE : Hid (partB f l k = allB8 f l) := by rw [hkn]; exact HAL.out
      rw [HE.out] at HO
      clear hkn hk
      go_wp2
      go_ret
      exact ownP_of rfl HO.out HY.out

set_option maxRecDepth 100000 in
set_option maxHeartbeats 4000000 in
theorem allD_any (v : Value) (l : List DoneV) (f : DoneV → List UInt8) (w : World) (h : RowsN w 3 DoneV.c v l) (hl : l.length ≤ 100000) (hfl : (allB8 f l).length < 100000000000)
    (hf : ∀ W x, Below w.heap.size w W → x ∈ l → Calls Tryz.prog 54 #[.agg #[.int .u64 x.num, .int .i64 x.node, .slice x.na x.nn x.nc]] W (OwnP W (f x))) :
    Calls Tryz.prog 53 #[v, .func (.func 54) #[] #[]] w (OwnP w (allB8 f l)) := by
  obtain ⟨n, ao, c, rfl⟩ := h.any
  obtain ⟨hn, a1, a2⟩ := h.len
  have HRW : Hid (RowsN w 3 DoneV.c (.slice ao n c) l) := h
  have HN : Hid (l.length = n) := hn.symm
  have hn5 : n ≤ 100000 := by omega
  have HF : Hid (∀ W x, Below w.heap.size w W → x ∈ l → Calls Tryz.prog 54 #[.agg #[.int .u64 x.num, .int .i64 x.node, .slice x.na x.nn x.nc]] W (OwnP W (f x))) := hf
  have HLE : Hid (∀ k, (partB f l k).length < 100000000000) := fun k => Nat.lt_of_le_of_lt (all_le f l k) hfl
  have HSM : Hid (Calls Tryz.prog 50 #[.int .i64 (n : Int)] w (OwnP w (enc l.length))) := by rw [← hn]; exact small_any n n w (by rw [IntKind.wrap_u64]; omega) (by omega)
  have HAL : Hid (partB f l l.length = allB8 f l) := by show _ = _; unfold partB; rw [List.take_of_length_le (Nat.le_refl _)]; rfl
  clear h hn hf hfl hl
  go_enter Tryz.func53, Tryz.ntmps53
  go_wp2_with fail
  refine HSM.out.mono ?_
  rintro e w1 ⟨a1_, n1, c1, rfl, ho, y⟩
  have HO : Hid (Own w1 w.heap.size (.slice a1_ n1 c1) (partB f l 0)) := by show Own _ _ _ _; unfold partB; simpa using ho
  have HY : Hid (Below w.heap.size w w1) := y
  clear ho y HSM
  go_wp2
  go_loopw [5, 13] (fun v i wr => ∃ k : Nat, i = .int .i64 k ∧ k ≤ n ∧ Own wr w.heap.size v (partB f l k) ∧ Below w.heap.size w wr) (fun _ i _ => n - (intOf i).toNat)
  case atStart => exact ⟨0, rfl, Nat.zero_le _, HO.out, HY.out⟩
  case round =>
    obtain ⟨k, rfl, hk, ho, y⟩ := hrel
    clear HO HY
    have HO : Hid (Own wr w.heap.size _ (partB f l k)) := ho
    have HY : Hid (Below w.heap.size w wr) := y
    clear ho y
    by_cases hlt : k < n
    · have hkl : k < l.length := by rw [HN.out]; exact hlt
      have hi2 : (k : Int) < (n : Int) := by omega
      have HS : Hid (partB f l (k + 1) = join (partB f l k) (f l[k])) := all_take f hkl
      have HLB : Hid ((partB f l k).length + (f l[k]).length < 1099511627776) := by
        have := HLE.out (k + 1)
        rw [HS.out, show (join (partB f l k) (f l[k])).length = (partB f l k).length + (f l[k]).length by unfold join; rw [List.length_append]] at this
        show _ < _
        omega
      have HM : Hid (l[k] ∈ l) := List.getElem_mem _
      obtain ⟨ad, had⟩ := RowsN.adr HRW.out (by omega)
      subst had
      have HH : Hid (RowsN wr 3 DoneV.c (.slice (some ad) n c) l) := HRW.out.below HY.out
      have e0 : wr.cell? (ad.add (k * 3)) = some _ := HH.out.at0 hkl rfl
      have e1 : wr.cell? ⟨(ad.add (k * 3)).block, (ad.add (k * 3)).off + 1, none⟩ = some _ := HH.out.atS hkl 0 rfl
      have e2 : wr.cell? ⟨(ad.add (k * 3)).block, (ad.add (k * 3)).off + 2, none⟩ = some _ := HH.out.atS hkl 1 rfl
      generalize l[k] = x at *
      have HB1 : Hid (Blk (wr.alloc (.cells #[.int .u64 x.num, .int .i64 x.node, .slice x.na x.nn x.nc] 51)) wr.heap.size #[.int .u64 x.num, .int .i64 x.node, .slice x.na x.nn x.nc] 51) := Blk.new _ _ _
      have HY1 : Hid (Below w.heap.size w (wr.alloc (.cells #[.int .u64 x.num, .int .i64 x.node, .slice x.na x.nn x.nc] 51))) := HY.out.alloc HY.out.size _
      have HO1 : Hid (Own (wr.alloc (.cells #[.int .u64 x.num, .int .i64 x.node, .slice x.na x.nn x.nc] 51)) w.heap.size _ (partB f l k)) := HO.out.below (below_allocR _)
      go_upto_region 5 with fail
      clear e0 e1 e2 HH HO HY
      generalize wr.alloc (.cells #[.int .u64 x.num, .int .i64 x.node, .slice x.na x.nn x.nc] 51) = w2 at *
      obtain ⟨b, hbb⟩ : ∃ b, wr.heap.size = b := ⟨_, rfl⟩
      rw [hbb] at HB1 ⊢
      clear hbb
      have z0 : w2.cell? ⟨b, 0, none⟩ = some _ := HB1.out.cell 0
      have z1 : w2.cell? ⟨b, 1, none⟩ = some _ := HB1.out.cell 1
      have z2 : w2.cell? ⟨b, 2, none⟩ = some _ := HB1.out.cell 2
      go_wp2_with fail
      refine (HF.out w2 x HY1.out HM.out).mono ?_
      rintro e w3 ⟨a3, n3, c3, rfl, ho, y⟩
      have HSR : Hid (Src w3 (.slice a3 n3 c3) (f x)) := ho.src
      have HO3 : Hid (Own w3 w.heap.size _ (partB f l k)) := HO1.out.below y
      have HY3 : Hid (Below w.heap.size w w3) := ext_trans HY1.out y
      clear ho y z0 z1 z2 HO1 HY1 HB1
      have HSZ : Hid (w.heap.size ≤ w3.heap.size) := HY3.out.size
      go_wp2_with (at_builtin; refine wpList_join w3 rfl _ _ rfl w.heap.size _ (partB f l k) (f x) HO3.out rfl _ HSR.out rfl HLB.out HSZ.out ?_)
      intro v' w' ho hg _
      have HO4 : Hid (Own w' w.heap.size v' (partB f l (k + 1))) := by rw [HS.out]; exact ho
      have HY4 : Hid (Below w.heap.size w w') := HY3.out.grown hg HSZ.out (fun g e => (World.ownsRow.lt HO3.out g e).1)
      clear ho hg
      go_wp2
      go_roundw
      case rel => exact ⟨k + 1, by go_num, hlt, HO4.out, HY4.out⟩
      case measure => simp [intOf]; omega
    · have hkn : k = l.length := by rw [HN.out]; omega
      have HE : Hid (partB f l k = allB8 f l) := by rw [hkn]; exact HAL.out
      rw [HE.out] at HO
      clear hkn hk
      go_wp2
      go_ret
      exact ownP_of rfl HO.out HY.out

set_option maxRecDepth 100000 in
set_option maxHeartbeats 4000000 in
theorem allC_any (v : Value) (l : List ChgV) (f : ChgV → List UInt8) (w : World) (h : RowsN w 9 ChgV.c v l) (hl : l.length ≤ 100000) (hfl : (allB8 f l).length < 100000000000)
    (hf : ∀ W x, Below w.heap.size w W → x ∈ l → Calls Tryz.prog 92 #[.agg #[.int .i64 x.n, .int .i64 x.p.kind, .slice x.ka x.kn x.kc, .slice x.va x.vn x.vc, .slice x.da x.dn x.dc, .int .i64 x.p.root, .int .i64 x.p.next, .int .i64 x.p.size, .int .i64 x.p.idle]] W (OwnP W (f x))) :
    Calls Tryz.prog 91 #[v, .func (.func 92) #[] #[]] w (OwnP w (allB8 f l)) := by
  obtain ⟨n, ao, c, rfl⟩ := h.any
  obtain ⟨hn, a1, a2⟩ := h.len
  have HRW : Hid (RowsN w 9 ChgV.c (.slice ao n c) l) := h
  have HN : Hid (l.length = n) := hn.symm
  have hn5 : n ≤ 100000 := by omega
  have HF : Hid (∀ W x, Below w.heap.size w W → x ∈ l → Calls Tryz.prog 92 #[.agg #[.int .i64 x.n, .int .i64 x.p.kind, .slice x.ka x.kn x.kc, .slice x.va x.vn x.vc, .slice x.da x.dn x.dc, .int .i64 x.p.root, .int .i64 x.p.next, .int .i64 x.p.size, .int .i64 x.p.idle]] W (OwnP W (f x))) := hf
  have HLE : Hid (∀ k, (partB f l k).length < 100000000000) := fun k => Nat.lt_of_le_of_lt (all_le f l k) hfl
  have HSM : Hid (Calls Tryz.prog 50 #[.int .i64 (n : Int)] w (OwnP w (enc l.length))) := by rw [← hn]; exact small_any n n w (by rw [IntKind.wrap_u64]; omega) (by omega)
  have HAL : Hid (partB f l l.length = allB8 f l) := by show _ = _; unfold partB; rw [List.take_of_length_le (Nat.le_refl _)]; rfl
  clear h hn hf hfl hl
  go_enter Tryz.func91, Tryz.ntmps91
  go_wp2_with fail
  refine HSM.out.mono ?_
  rintro e w1 ⟨a1_, n1, c1, rfl, ho, y⟩
  have HO : Hid (Own w1 w.heap.size (.slice a1_ n1 c1) (partB f l 0)) := by show Own _ _ _ _; unfold partB; simpa using ho
  have HY : Hid (Below w.heap.size w w1) := y
  clear ho y HSM
  go_wp2
  go_loopw [5, 13] (fun v i wr => ∃ k : Nat, i = .int .i64 k ∧ k ≤ n ∧ Own wr w.heap.size v (partB f l k) ∧ Below w.heap.size w wr) (fun _ i _ => n - (intOf i).toNat)
  case atStart => exact ⟨0, rfl, Nat.zero_le _, HO.out, HY.out⟩
  case round =>
    obtain ⟨k, rfl, hk, ho, y⟩ := hrel
    clear HO HY
    have HO : Hid (Own wr w.heap.size _ (partB f l k)) := ho
    have HY : Hid (Below w.heap.size w wr) := y
    clear ho y
    by_cases hlt : k < n
    · have hkl : k < l.length := by rw [HN.out]; exact hlt
      have hi2 : (k : Int) < (n : Int) := by omega
      have HS : Hid (partB f l (k + 1) = join (partB f l k) (f l[k])) := all_take f hkl
      have HLB : Hid ((partB f l k).length + (f l[k]).length < 1099511627776) := by
        have := HLE.out (k + 1)
        rw [HS.out, show (join (partB f l k) (f l[k])).length = (partB f l k).length + (f l[k]).length by unfold join; rw [List.length_append]] at this
        show _ < _
        omega
      have HM : Hid (l[k] ∈ l) := List.getElem_mem _
      obtain ⟨ad, had⟩ := RowsN.adr HRW.out (by omega)
      subst had
      have HH : Hid (RowsN wr 9 ChgV.c (.slice (some ad) n c) l) := HRW.out.below HY.out
      have e0 : wr.cell? (ad.add (k * 9)) = some _ := HH.out.at0 hkl rfl
      have e1 : wr.cell? ⟨(ad.add (k * 9)).block, (ad.add (k * 9)).off + 1, none⟩ = some _ := HH.out.atS hkl 0 rfl
      have e2 : wr.cell? ⟨(ad.add (k * 9)).block, (ad.add (k * 9)).off + 2, none⟩ = some _ := HH.out.atS hkl 1 rfl
      have e3 : wr.cell? ⟨(ad.add (k * 9)).block, (ad.add (k * 9)).off + 3, none⟩ = some _ := HH.out.atS hkl 2 rfl
      have e4 : wr.cell? ⟨(ad.add (k * 9)).block, (ad.add (k * 9)).off + 4, none⟩ = some _ := HH.out.atS hkl 3 rfl
      have e5 : wr.cell? ⟨(ad.add (k * 9)).block, (ad.add (k * 9)).off + 5, none⟩ = some _ := HH.out.atS hkl 4 rfl
      have e6 : wr.cell? ⟨(ad.add (k * 9)).block, (ad.add (k * 9)).off + 6, none⟩ = some _ := HH.out.atS hkl 5 rfl
      have e7 : wr.cell? ⟨(ad.add (k * 9)).block, (ad.add (k * 9)).off + 7, none⟩ = some _ := HH.out.atS hkl 6 rfl
      have e8 : wr.cell? ⟨(ad.add (k * 9)).block, (ad.add (k * 9)).off + 8, none⟩ = some _ := HH.out.atS hkl 7 rfl
      generalize l[k] = x at *
      have HB1 : Hid (Blk (wr.alloc (.cells #[.int .i64 x.n, .int .i64 x.p.kind, .slice x.ka x.kn x.kc, .slice x.va x.vn x.vc, .slice x.da x.dn x.dc, .int .i64 x.p.root, .int .i64 x.p.next, .int .i64 x.p.size, .int .i64 x.p.idle] 49)) wr.heap.size #[.int .i64 x.n, .int .i64 x.p.kind, .slice x.ka x.kn x.kc, .slice x.va x.vn x.vc, .slice x.da x.dn x.dc, .int .i64 x.p.root, .int .i64 x.p.next, .int .i64 x.p.size, .int .i64 x.p.idle] 49) := Blk.new _ _ _
      have HY1 : Hid (Below w.heap.size w (wr.alloc (.cells #[.int .i64 x.n, .int .i64 x.p.kind, .slice x.ka x.kn x.kc, .slice x.va x.vn x.vc, .slice x.da x.dn x.dc, .int .i64 x.p.root, .int .i64 x.p.next, .int .i64 x.p.size, .int .i64 x.p.idle] 49))) := HY.out.alloc HY.out.size _
      have HO1 : Hid (Own (wr.alloc (.cells #[.int .i64 x.n, .int .i64 x.p.kind, .slice x.ka x.kn x.kc, .slice x.va x.vn x.vc, .slice x.da x.dn x.dc, .int .i64 x.p.root, .int .i64 x.p.next, .int .i64 x.p.size, .int .i64 x.p.idle] 49)) w.heap.size _ (partB f l k)) := HO.out.below (below_allocR _)
      go_upto_region 5 with fail
      clear e0 e1 e2 e3 e4 e5 e6 e7 e8 HH HO HY
      generalize wr.alloc (.cells #[.int .i64 x.n, .int .i64 x.p.kind, .slice x.ka x.kn x.kc, .slice x.va x.vn x.vc, .slice x.da x.dn x.dc, .int .i64 x.p.root, .int .i64 x.p.next, .int .i64 x.p.size, .int .i64 x.p.idle] 49) = w2 at *
      obtain ⟨b, hbb⟩ : ∃ b, wr.heap.size = b := ⟨_, rfl⟩
      rw [hbb] at HB1 ⊢
      clear hbb
      have z0 : w2.cell? ⟨b, 0, none⟩ = some _ := HB1.out.cell 0
      have z1 : w2.cell? ⟨b, 1, none⟩ = some _ := HB1.out.cell 1
      have z2 : w2.cell? ⟨b, 2, none⟩ = some _ := HB1.out.cell 2
      have z3 : w2.cell? ⟨b, 3, none⟩ = some _ := HB1.out.cell 3
      have z4 : w2.cell? ⟨b, 4, none⟩ = some _ := HB1.out.cell 4
      have z5 : w2.cell? ⟨b, 5, none⟩ = some _ := HB1.out.cell 5
      have z6 : w2.cell? ⟨b, 6, none⟩ = some _ := HB1.out.cell 6
      have z7 : w2.cell? ⟨b, 7, none⟩ = some _ := HB1.out.cell 7
      have z8 : w2.cell? ⟨b, 8, none⟩ = some _ := HB1.out.cell 8
      go_wp2_with fail
      refine (HF.out w2 x HY1.out HM.out).mono ?_
      rintro e w3 ⟨a3, n3, c3, rfl, ho, y⟩
      have HSR : Hid (Src w3 (.slice a3 n3 c3) (f x)) := ho.src
      have HO3 : Hid (Own w3 w.heap.size _ (partB f l k)) := HO1.out.below y
      have HY3 : Hid (Below w.heap.size w w3) := ext_trans HY1.out y
      clear ho y z0 z1 z2 z3 z4 z5 z6 z7 z8 HO1 HY1 HB1
      have HSZ : Hid (w.heap.size ≤ w3.heap.size) := HY3.out.size
      go_wp2_with (at_builtin; refine wpList_join w3 rfl _ _ rfl w.heap.size _ (partB f l k) (f x) HO3.out rfl _ HSR.out rfl HLB.out HSZ.out ?_)
      intro v' w' ho hg _
      have HO4 : Hid (Own w' w.heap.size v' (partB f l (k + 1))) := by rw [HS.out]; exact ho
      have HY4 : Hid (Below w.heap.size w w') := HY3.out.grown hg HSZ.out (fun g e => (World.ownsRow.lt HO3.out g e).1)
      clear ho hg
      go_wp2
      go_roundw
      case rel => exact ⟨k + 1, by go_num, hlt, HO4.out, HY4.out⟩
      case measure => simp [intOf]; omega
    · have hkn : k = l.length := by rw [HN.out]; omega
      have HE : Hid (partB f l k = allB8 f l) := by rw [hkn]; exact HAL.out
      rw [HE.out] at HO
      clear hkn hk
      go_wp2
      go_ret
      exact ownP_of rfl HO.out HY.out
end Go.Proofs.YtbgofajldkblmaaGreat

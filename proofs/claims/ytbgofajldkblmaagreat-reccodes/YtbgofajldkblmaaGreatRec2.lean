/- Rows of structs; rec's fits over them. Own lemmas, no statement. -/
import Derived.Test.YtbgofajldkblmaaGreatRec1
import Derived.Test.YtbgofajldkblmaaGreatSeg
import Derived.Test.YtbgofajldkblmaaGreatBlk
import Derived.Test.YtbgofajldkblmaaGreatOps
import Derived.Deep.Cut
import Derived.Deep.QuietTactic
import Derived.BigQuiet
set_option linter.unusedSimpArgs false
set_option linter.unusedVariables false
namespace Go.Proofs.YtbgofajldkblmaaGreat
open Go.ChangeShapes Go.WideShapes Go.ChangeAt Go.RowKit

/-- A transaction that is open; one that is decided; a page that was turned: by their cells. -/
structure OpenV where
  num : Int
  node : Int
  last : Int
  first : Int
  count : Int
  ready : Bool
  ra : Option Addr
  rn : Nat
  rc : Nat
  rs : List ByteArray
structure DoneV where
  num : Int
  node : Int
  na : Option Addr
  nn : Nat
  nc : Nat
  ns : List Int
structure ChgV where
  n : Int
  p : Pg
  ka : Option Addr
  kn : Nat
  kc : Nat
  va : Option Addr
  vn : Nat
  vc : Nat
  da : Option Addr
  dn : Nat
  dc : Nat
def OpenV.c (x : OpenV) : List Value := [.int .u64 x.num, .int .i64 x.node, .int .u64 x.last, .int .u64 x.first, .int .i64 x.count, .bool x.ready, .slice x.ra x.rn x.rc]
def DoneV.c (x : DoneV) : List Value := [.int .u64 x.num, .int .i64 x.node, .slice x.na x.nn x.nc]
def ChgV.c (x : ChgV) : List Value := [.int .i64 x.n, .int .i64 x.p.kind, .slice x.ka x.kn x.kc, .slice x.va x.vn x.vc, .slice x.da x.dn x.dc, .int .i64 x.p.root, .int .i64 x.p.next, .int .i64 x.p.size, .int .i64 x.p.idle]
/-- A row of structs that may be read. -/
def RowsN {α : Type} (W : World) (k : Nat) (cs : α → List Value) (v : Value) (l : List α) : Prop :=
  ∃ ao c, v = .slice ao l.length c ∧ l.length ≤ c ∧ c ≤ maxLen ∧ (ao = none → l = [] ∧ c = 0) ∧ ∀ ad, ao = some ad → ∀ i x, l[i]? = some x → ∀ j u, (cs x)[j]? = some u → W.cell? (ad.add (i * k + j)) = some u
section
variable {α : Type} {W W' : World} {k n c : Nat} {cs : α → List Value} {v : Value} {l : List α} {ao : Option Addr} {pa : Addr}
theorem RowsN.nil (W : World) (k : Nat) (cs : α → List Value) : RowsN W k cs (.slice none 0 0) [] := ⟨none, 0, rfl, Nat.le_refl _, by simp [maxLen], fun _ => ⟨rfl, rfl⟩, fun ad e => by cases e⟩
theorem RowsN.any (h : RowsN W k cs v l) : ∃ n a c, v = .slice a n c := by obtain ⟨a, c, e, _⟩ := h; exact ⟨_, a, c, e⟩
theorem RowsN.below (h : RowsN W k cs v l) (hb : Below W.heap.size W W') : RowsN W' k cs v l := by
  obtain ⟨ao, c, e, h1, h2, h3, h4⟩ := h
  exact ⟨ao, c, e, h1, h2, h3, fun ad had i x hx j u hu => by
    have hc := h4 ad had i x hx j u hu
    exact (Below.cell hb (World.block_lt_of_cell? W _ hc)).trans hc⟩
theorem RowsN.len (h : RowsN W k cs (.slice ao n c) l) : n = l.length ∧ n ≤ c ∧ c ≤ maxLen := by
  obtain ⟨a, c', e, h1, h2, _⟩ := h
  cases e
  exact ⟨rfl, h1, h2⟩
theorem RowsN.adr (h : RowsN W k cs (.slice ao n c) l) (hl : 0 < l.length) : ∃ ad, ao = some ad := by
  obtain ⟨a, c', e, h1, h2, h3, _⟩ := h
  cases e
  cases ao with
  | none => rw [(h3 rfl).1] at hl; cases hl
  | some x => exact ⟨x, rfl⟩
theorem RowsN.at0 (h : RowsN W k cs (.slice (some pa) n c) l) {i : Nat} (hi : i < l.length) {u : Value} (hu : (cs l[i])[0]? = some u) : W.cell? (pa.add (i * k)) = some u := by
  obtain ⟨a, c', e, _, _, _, h4⟩ := h
  cases e
  exact h4 pa rfl i _ (List.getElem?_eq_getElem hi) 0 u hu
theorem add_on (pa : Addr) (q j : Nat) : (⟨(pa.add q).block, (pa.add q).off + (j + 1), none⟩ : Addr) = pa.add (q + (j + 1)) := by
  unfold Addr.add
  rw [if_neg (by omega : ¬ (q + (j + 1) = 0))]
  by_cases h0 : q = 0
  · rw [if_pos h0, h0]; simp
  · rw [if_neg h0]; simp [Nat.add_assoc]
theorem RowsN.atS (h : RowsN W k cs (.slice (some pa) n c) l) {i : Nat} (hi : i < l.length) (j : Nat) {u : Value} (hu : (cs l[i])[j + 1]? = some u) : W.cell? ⟨(pa.add (i * k)).block, (pa.add (i * k)).off + (j + 1), none⟩ = some u := by
  obtain ⟨a, c', e, _, _, _, h4⟩ := h
  cases e
  rw [add_on]
  exact h4 pa rfl i _ (List.getElem?_eq_getElem hi) (j + 1) u hu
end

set_option maxRecDepth 100000 in
set_option maxHeartbeats 4000000 in
theorem fitsO_any (v : Value) (l : List OpenV) (m : Nat) (r : OpenV → Bool) (a : OpenV → OpenV → Bool) (d : OpenV) (w : World) (h : RowsN w 7 OpenV.c v l) (hm : m ≤ 1000)
    (hf : ∀ W x, Below w.heap.size w W → x ∈ l → Calls Tryz.prog 64 #[.agg #[.int .u64 x.num, .int .i64 x.node, .int .u64 x.last, .int .u64 x.first, .int .i64 x.count, .bool x.ready, .slice x.ra x.rn x.rc]] W fun e w' => e = .returned (.bool (r x)) ∧ Below W.heap.size W w')
    (hg : ∀ W x y, Below w.heap.size w W → x ∈ l → y ∈ l → Calls Tryz.prog 65 #[.agg #[.int .u64 x.num, .int .i64 x.node, .int .u64 x.last, .int .u64 x.first, .int .i64 x.count, .bool x.ready, .slice x.ra x.rn x.rc], .agg #[.int .u64 y.num, .int .i64 y.node, .int .u64 y.last, .int .u64 y.first, .int .i64 y.count, .bool y.ready, .slice y.ra y.rn y.rc]] W fun e w' => e = .returned (.bool (a x y)) ∧ Below W.heap.size W w') :
    Calls Tryz.prog 63 #[v, .int .i64 (m : Int), .func (.func 64) #[] #[], .func (.func 65) #[] #[]] w fun e w' => e = .returned (.bool (fitsB r a d m l)) ∧ Below w.heap.size w w' := by
  obtain ⟨n, ao, c, rfl⟩ := h.any
  obtain ⟨hn, a1, a2⟩ := h.len
  have HRW0 : Hid (RowsN w 7 OpenV.c (.slice ao n c) l) := h
  have HF : Hid (∀ W x, Below w.heap.size w W → x ∈ l → Calls Tryz.prog 64 #[.agg #[.int .u64 x.num, .int .i64 x.node, .int .u64 x.last, .int .u64 x.first, .int .i64 x.count, .bool x.ready, .slice x.ra x.rn x.rc]] W fun e w' => e = .returned (.bool (r x)) ∧ Below W.heap.size W w') := hf
  have HG : Hid (∀ W x y, Below w.heap.size w W → x ∈ l → y ∈ l → Calls Tryz.prog 65 #[.agg #[.int .u64 x.num, .int .i64 x.node, .int .u64 x.last, .int .u64 x.first, .int .i64 x.count, .bool x.ready, .slice x.ra x.rn x.rc], .agg #[.int .u64 y.num, .int .i64 y.node, .int .u64 y.last, .int .u64 y.first, .int .i64 y.count, .bool y.ready, .slice y.ra y.rn y.rc]] W fun e w' => e = .returned (.bool (a x y)) ∧ Below W.heap.size W w') := hg
  have HN : Hid (l.length = n) := hn.symm
  have HR : Hid (fitsB r a d m l = (decide (n ≤ m) && allB (fitAt r a d l) n)) := by show _ = _; rw [fitsB, ← hn]
  unfold maxLen at a2
  clear h hf hg hn
  go_enter Tryz.func63, Tryz.ntmps63
  by_cases hnm : m < n
  · go_wp2
    go_ret
    exact ⟨ret_bool (by rw [HR.out]; simp; omega), Below.refl _ _⟩
  · go_wp2
    go_loopw [17] (fun i wr => ∃ k : Nat, i = .int .i64 k ∧ k ≤ n ∧ allB (fitAt r a d l) k = true ∧ Below w.heap.size w wr) (fun i _ => n - (intOf i).toNat)
    case atStart => exact ⟨0, rfl, Nat.zero_le _, rfl, Below.refl _ _⟩
    case round =>
      obtain ⟨k, rfl, hk, hall, y⟩ := hrel
      have HA : Hid (allB (fitAt r a d l) k = true) := hall
      have HY : Hid (Below w.heap.size w wr) := y
      clear hall y
      by_cases hlt : k < n
      · have hlt1 : k < l.length := by have := HN.out; omega
        obtain ⟨ad, had⟩ := RowsN.adr HRW0.out (by omega)
        subst had
        have HRW : Hid (RowsN w 7 OpenV.c (.slice (some ad) n c) l) := HRW0.out
        have HH : Hid (RowsN wr 7 OpenV.c (.slice (some ad) n c) l) := HRW.out.below HY.out
        clear HRW0
        have e0 : (wr).cell? (ad.add (k * 7)) = some _ := (HH.out).at0 hlt1 rfl
        have e1 : (wr).cell? ⟨(ad.add (k * 7)).block, (ad.add (k * 7)).off + 1, none⟩ = some _ := (HH.out).atS hlt1 0 rfl
        have e2 : (wr).cell? ⟨(ad.add (k * 7)).block, (ad.add (k * 7)).off + 2, none⟩ = some _ := (HH.out).atS hlt1 1 rfl
        have e3 : (wr).cell? ⟨(ad.add (k * 7)).block, (ad.add (k * 7)).off + 3, none⟩ = some _ := (HH.out).atS hlt1 2 rfl
        have e4 : (wr).cell? ⟨(ad.add (k * 7)).block, (ad.add (k * 7)).off + 4, none⟩ = some _ := (HH.out).atS hlt1 3 rfl
        have e5 : (wr).cell? ⟨(ad.add (k * 7)).block, (ad.add (k * 7)).off + 5, none⟩ = some _ := (HH.out).atS hlt1 4 rfl
        have e6 : (wr).cell? ⟨(ad.add (k * 7)).block, (ad.add (k * 7)).off + 6, none⟩ = some _ := (HH.out).atS hlt1 5 rfl
        have HX : Hid (l[k] ∈ l) := List.getElem_mem _
        have hint : (k : Int) < (n : Int) := by omega
        clear HH
        by_cases hk0 : k = 0
        · have HV : Hid (fitAt r a d l k = r l[k]) := by show _ = _; subst hk0; exact fit_zero hlt1
          have hp1 : ¬ (0 < k) := by omega
          have hp2 : ¬ ((0 : Int) < (k : Int)) := by omega
          have hp3 : decide ((0 : Int) < (k : Int)) = false := decide_eq_false hp2
          generalize l[k] = x at *
          clear hk0
          go_upto_region 6 with fail
          have HB1 : Hid (Blk (wr.alloc (.cells #[.int .u64 x.num, .int .i64 x.node, .int .u64 x.last, .int .u64 x.first, .int .i64 x.count, .bool x.ready, .slice x.ra x.rn x.rc] 45)) wr.heap.size #[.int .u64 x.num, .int .i64 x.node, .int .u64 x.last, .int .u64 x.first, .int .i64 x.count, .bool x.ready, .slice x.ra x.rn x.rc] 45) := Blk.new _ _ _
          have HY1 : Hid (Below w.heap.size w (wr.alloc (.cells #[.int .u64 x.num, .int .i64 x.node, .int .u64 x.last, .int .u64 x.first, .int .i64 x.count, .bool x.ready, .slice x.ra x.rn x.rc] 45))) := HY.out.alloc HY.out.size _
          clear e0 e1 e2 e3 e4 e5 e6 HY
          generalize wr.alloc (.cells #[.int .u64 x.num, .int .i64 x.node, .int .u64 x.last, .int .u64 x.first, .int .i64 x.count, .bool x.ready, .slice x.ra x.rn x.rc] 45) = w1 at *
          obtain ⟨b, hbb⟩ : ∃ b, wr.heap.size = b := ⟨_, rfl⟩
          rw [hbb] at HB1 ⊢
          clear hbb
          refine wp_region_ext (by kernel_rfl) ?_
          haveI nA := cls_ext w1.drew
          have q0 := cellX (W0 := w1.drew) (show w1.drew.cell? ⟨b, 0, none⟩ = some _ from HB1.out.cell 0)
          have q1 := cellX (W0 := w1.drew) (show w1.drew.cell? ⟨b, 1, none⟩ = some _ from HB1.out.cell 1)
          have q2 := cellX (W0 := w1.drew) (show w1.drew.cell? ⟨b, 2, none⟩ = some _ from HB1.out.cell 2)
          have q3 := cellX (W0 := w1.drew) (show w1.drew.cell? ⟨b, 3, none⟩ = some _ from HB1.out.cell 3)
          have q4 := cellX (W0 := w1.drew) (show w1.drew.cell? ⟨b, 4, none⟩ = some _ from HB1.out.cell 4)
          have q5 := cellX (W0 := w1.drew) (show w1.drew.cell? ⟨b, 5, none⟩ = some _ from HB1.out.cell 5)
          have q6 := cellX (W0 := w1.drew) (show w1.drew.cell? ⟨b, 6, none⟩ = some _ from HB1.out.cell 6)
          refine wpAnyH_seg (by kernel_rfl) (fun _ _ _ h => h) [0, 1] 17 _ _ _ (Ext.refl _) (by kernel_rfl) ?_
          simp only [opsAt, List.getElem?_toArray, List.getElem?_cons_zero, List.getElem?_cons_succ, List.cons_append, List.nil_append]
          repeat (go_big_quiet_step (fail))
          refine wpQuiet_nil ?_
          clear nA q0 q1 q2 q3 q4 q5 q6
          refine wpAnyH_callE (i := 2) (fuel := 16) 24 rfl (by kernel_rfl) rfl (Ext.refl _) (by kernel_rfl) (f := 64) (args := #[.agg #[.int .u64 x.num, .int .i64 x.node, .int .u64 x.last, .int .u64 x.first, .int .i64 x.count, .bool x.ready, .slice x.ra x.rn x.rc]]) (by kernel_rfl) (HF.out w1.drew x (Below.drew HY1.out) HX.out) ?_
          rintro e w2 ⟨rfl, y⟩
          refine ⟨_, rfl, y, ?_⟩
          have HB2 : Hid (Blk w2 b #[.int .u64 x.num, .int .i64 x.node, .int .u64 x.last, .int .u64 x.first, .int .i64 x.count, .bool x.ready, .slice x.ra x.rn x.rc] 45) := Blk.of HB1.out (y.block _ HB1.out.lt)
          have HY2 : Hid (Below w.heap.size w w2) := ext_trans (Below.drew HY1.out) y
          clear y HB1 HY1
          simp only [Act.put, List.setIfInBounds_toArray, List.set_cons_succ, List.set_cons_zero]
          cases hx : r x with
          | false =>
            have HRX : Hid (r x = false) := hx
            clear hx
            haveI nA := cls_ext w2
            refine wpAnyH_seg (by kernel_rfl) (fun _ _ _ h => h) [3, 4, 5, 6, 7, 8, 9, 10, 11, 12, 13, 14] 4 _ _ _ (Ext.refl _) (by kernel_rfl) ?_
            simp only [opsAt, List.getElem?_toArray, List.getElem?_cons_zero, List.getElem?_cons_succ, List.cons_append, List.nil_append]
            repeat (go_big_quiet_step (fail))
            refine wpQuiet_nil ?_
            clear nA
            refine wpAnyH_all (rs := [15]) (fuel := 3) (by kernel_rfl) (by simp) fun j0 hj0 => ?_
            obtain rfl : j0 = 15 := by simpa using hj0
            clear hj0
            refine wpOp_skip 37 rfl (by kernel_rfl) rfl ?_
            refine ⟨Ext.refl _, ?_⟩
            simp only [Act.put, List.setIfInBounds_toArray, List.set_cons_succ, List.set_cons_zero]
            haveI nA := cls_ext w2
            refine wpAnyH_seg (by kernel_rfl) (fun _ _ _ h => h) [16, 17, 18] 0 _ _ _ (Ext.refl _) (by kernel_rfl) ?_
            simp only [opsAt, List.getElem?_toArray, List.getElem?_cons_zero, List.getElem?_cons_succ, List.cons_append, List.nil_append]
            repeat (go_big_quiet_step (fail))
            refine wpQuiet_nil ?_
            clear nA
            refine wpAnyH_done (by kernel_rfl) (NoPanic.normal ?_) 0
            go_wp2
            go_ret
            exact ⟨ret_bool (by rw [HR.out, allB_false hlt (by rw [HV.out, HRX.out])]; simp), HY2.out⟩
          | true =>
            have HRX : Hid (r x = true) := hx
            clear hx
            haveI nA := cls_ext w2
            refine wpAnyH_seg (by kernel_rfl) (fun _ _ _ h => h) [3, 4, 5, 6, 7, 8, 9, 10, 11, 12, 13, 14] 4 _ _ _ (Ext.refl _) (by kernel_rfl) ?_
            simp only [opsAt, List.getElem?_toArray, List.getElem?_cons_zero, List.getElem?_cons_succ, List.cons_append, List.nil_append]
            repeat (go_big_quiet_step (fail))
            refine wpQuiet_nil ?_
            clear nA
            refine wpAnyH_all (rs := [15]) (fuel := 3) (by kernel_rfl) (by simp) fun j0 hj0 => ?_
            obtain rfl : j0 = 15 := by simpa using hj0
            clear hj0
            refine wpOp_skip 37 rfl (by kernel_rfl) rfl ?_
            refine ⟨Ext.refl _, ?_⟩
            simp only [Act.put, List.setIfInBounds_toArray, List.set_cons_succ, List.set_cons_zero]
            haveI nA := cls_ext w2
            refine wpAnyH_seg (by kernel_rfl) (fun _ _ _ h => h) [16, 17, 18] 0 _ _ _ (Ext.refl _) (by kernel_rfl) ?_
            simp only [opsAt, List.getElem?_toArray, List.getElem?_cons_zero, List.getElem?_cons_succ, List.cons_append, List.nil_append]
            repeat (go_big_quiet_step (fail))
            refine wpQuiet_nil ?_
            clear nA
            refine wpAnyH_done (by kernel_rfl) (NoPanic.normal ?_) 0
            go_wp2
            go_roundw
            case rel => exact ⟨k + 1, by go_num, by omega, by rw [allB, HA.out, HV.out, HRX.out]; rfl, HY2.out⟩
            case measure => simp [intOf]; omega
        · obtain ⟨j, hj⟩ : ∃ j, k - 1 = j := ⟨_, rfl⟩
          have hjl : j < l.length := by omega
          have HV : Hid (fitAt r a d l k = (r l[k] && a l[j] l[k])) := by
            show _ = _
            obtain ⟨k', rfl⟩ : ∃ k', k = k' + 1 := ⟨k - 1, by omega⟩
            have : j = k' := by omega
            subst this
            exact fit_succ hlt1
          have hp1 : 0 < k := by omega
          have hp2 : (0 : Int) < (k : Int) := by omega
          have hwr : IntKind.i64.wrap ((k : Int) - 1) = (j : Int) := by rw [IntKind.wrap_i64]; omega
          have hjn : (j : Int) < (n : Int) := by omega
          have hjn2 : j < n := by omega
          have HZX : Hid (l[j] ∈ l) := List.getElem_mem _
          obtain ⟨z, hz⟩ : ∃ z, l[j] = z := ⟨_, rfl⟩
          have HZ : Hid (l[j] = z) := hz
          rw [hz] at HV HZX
          generalize l[k] = x at *
          clear hk0 hj hz
          go_upto_region 6 with fail
          have HB1 : Hid (Blk (wr.alloc (.cells #[.int .u64 x.num, .int .i64 x.node, .int .u64 x.last, .int .u64 x.first, .int .i64 x.count, .bool x.ready, .slice x.ra x.rn x.rc] 45)) wr.heap.size #[.int .u64 x.num, .int .i64 x.node, .int .u64 x.last, .int .u64 x.first, .int .i64 x.count, .bool x.ready, .slice x.ra x.rn x.rc] 45) := Blk.new _ _ _
          have HY1 : Hid (Below w.heap.size w (wr.alloc (.cells #[.int .u64 x.num, .int .i64 x.node, .int .u64 x.last, .int .u64 x.first, .int .i64 x.count, .bool x.ready, .slice x.ra x.rn x.rc] 45))) := HY.out.alloc HY.out.size _
          clear e0 e1 e2 e3 e4 e5 e6 HY
          generalize wr.alloc (.cells #[.int .u64 x.num, .int .i64 x.node, .int .u64 x.last, .int .u64 x.first, .int .i64 x.count, .bool x.ready, .slice x.ra x.rn x.rc] 45) = w1 at *
          obtain ⟨b, hbb⟩ : ∃ b, wr.heap.size = b := ⟨_, rfl⟩
          rw [hbb] at HB1 ⊢
          clear hbb
          refine wp_region_ext (by kernel_rfl) ?_
          haveI nA := cls_ext w1.drew
          have q0 := cellX (W0 := w1.drew) (show w1.drew.cell? ⟨b, 0, none⟩ = some _ from HB1.out.cell 0)
          have q1 := cellX (W0 := w1.drew) (show w1.drew.cell? ⟨b, 1, none⟩ = some _ from HB1.out.cell 1)
          have q2 := cellX (W0 := w1.drew) (show w1.drew.cell? ⟨b, 2, none⟩ = some _ from HB1.out.cell 2)
          have q3 := cellX (W0 := w1.drew) (show w1.drew.cell? ⟨b, 3, none⟩ = some _ from HB1.out.cell 3)
          have q4 := cellX (W0 := w1.drew) (show w1.drew.cell? ⟨b, 4, none⟩ = some _ from HB1.out.cell 4)
          have q5 := cellX (W0 := w1.drew) (show w1.drew.cell? ⟨b, 5, none⟩ = some _ from HB1.out.cell 5)
          have q6 := cellX (W0 := w1.drew) (show w1.drew.cell? ⟨b, 6, none⟩ = some _ from HB1.out.cell 6)
          refine wpAnyH_seg (by kernel_rfl) (fun _ _ _ h => h) [0, 1] 17 _ _ _ (Ext.refl _) (by kernel_rfl) ?_
          simp only [opsAt, List.getElem?_toArray, List.getElem?_cons_zero, List.getElem?_cons_succ, List.cons_append, List.nil_append]
          repeat (go_big_quiet_step (fail))
          refine wpQuiet_nil ?_
          clear nA q0 q1 q2 q3 q4 q5 q6
          refine wpAnyH_callE (i := 2) (fuel := 16) 24 rfl (by kernel_rfl) rfl (Ext.refl _) (by kernel_rfl) (f := 64) (args := #[.agg #[.int .u64 x.num, .int .i64 x.node, .int .u64 x.last, .int .u64 x.first, .int .i64 x.count, .bool x.ready, .slice x.ra x.rn x.rc]]) (by kernel_rfl) (HF.out w1.drew x (Below.drew HY1.out) HX.out) ?_
          rintro e w2 ⟨rfl, y⟩
          refine ⟨_, rfl, y, ?_⟩
          have HB2 : Hid (Blk w2 b #[.int .u64 x.num, .int .i64 x.node, .int .u64 x.last, .int .u64 x.first, .int .i64 x.count, .bool x.ready, .slice x.ra x.rn x.rc] 45) := Blk.of HB1.out (y.block _ HB1.out.lt)
          have HY2 : Hid (Below w.heap.size w w2) := ext_trans (Below.drew HY1.out) y
          clear y HB1 HY1
          simp only [Act.put, List.setIfInBounds_toArray, List.set_cons_succ, List.set_cons_zero]
          cases hx : r x with
          | false =>
            have HRX : Hid (r x = false) := hx
            clear hx
            haveI nA := cls_ext w2
            refine wpAnyH_seg (by kernel_rfl) (fun _ _ _ h => h) [3, 4, 5, 6, 7, 8, 9, 10, 11, 12, 13, 14] 4 _ _ _ (Ext.refl _) (by kernel_rfl) ?_
            simp only [opsAt, List.getElem?_toArray, List.getElem?_cons_zero, List.getElem?_cons_succ, List.cons_append, List.nil_append]
            repeat (go_big_quiet_step (fail))
            refine wpQuiet_nil ?_
            clear nA
            refine wpAnyH_all (rs := [15]) (fuel := 3) (by kernel_rfl) (by simp) fun j0 hj0 => ?_
            obtain rfl : j0 = 15 := by simpa using hj0
            clear hj0
            refine wpOp_skip 37 rfl (by kernel_rfl) rfl ?_
            refine ⟨Ext.refl _, ?_⟩
            simp only [Act.put, List.setIfInBounds_toArray, List.set_cons_succ, List.set_cons_zero]
            haveI nA := cls_ext w2
            refine wpAnyH_seg (by kernel_rfl) (fun _ _ _ h => h) [16, 17, 18] 0 _ _ _ (Ext.refl _) (by kernel_rfl) ?_
            simp only [opsAt, List.getElem?_toArray, List.getElem?_cons_zero, List.getElem?_cons_succ, List.cons_append, List.nil_append]
            repeat (go_big_quiet_step (fail))
            refine wpQuiet_nil ?_
            clear nA
            refine wpAnyH_done (by kernel_rfl) (NoPanic.normal ?_) 0
            go_wp2
            go_ret
            exact ⟨ret_bool (by rw [HR.out, allB_false hlt (by rw [HV.out, HRX.out]; rfl)]; simp), HY2.out⟩
          | true =>
            have HRX : Hid (r x = true) := hx
            clear hx
            have HJ2 : Hid (RowsN w2 7 OpenV.c (.slice (some ad) n c) l) := HRW.out.below HY2.out
            have f0 : (w2).cell? (ad.add (j * 7)) = some _ := (HJ2.out).at0 hjl rfl
            have f1 : (w2).cell? ⟨(ad.add (j * 7)).block, (ad.add (j * 7)).off + 1, none⟩ = some _ := (HJ2.out).atS hjl 0 rfl
            have f2 : (w2).cell? ⟨(ad.add (j * 7)).block, (ad.add (j * 7)).off + 2, none⟩ = some _ := (HJ2.out).atS hjl 1 rfl
            have f3 : (w2).cell? ⟨(ad.add (j * 7)).block, (ad.add (j * 7)).off + 3, none⟩ = some _ := (HJ2.out).atS hjl 2 rfl
            have f4 : (w2).cell? ⟨(ad.add (j * 7)).block, (ad.add (j * 7)).off + 4, none⟩ = some _ := (HJ2.out).atS hjl 3 rfl
            have f5 : (w2).cell? ⟨(ad.add (j * 7)).block, (ad.add (j * 7)).off + 5, none⟩ = some _ := (HJ2.out).atS hjl 4 rfl
            have f6 : (w2).cell? ⟨(ad.add (j * 7)).block, (ad.add (j * 7)).off + 6, none⟩ = some _ := (HJ2.out).atS hjl 5 rfl
            rw [HZ.out] at f0 f1 f2 f3 f4 f5 f6
            haveI nA := cls_ext w2
            have q0 := cellX (W0 := w2) (show w2.cell? ⟨b, 0, none⟩ = some _ from HB2.out.cell 0)
            have q1 := cellX (W0 := w2) (show w2.cell? ⟨b, 1, none⟩ = some _ from HB2.out.cell 1)
            have q2 := cellX (W0 := w2) (show w2.cell? ⟨b, 2, none⟩ = some _ from HB2.out.cell 2)
            have q3 := cellX (W0 := w2) (show w2.cell? ⟨b, 3, none⟩ = some _ from HB2.out.cell 3)
            have q4 := cellX (W0 := w2) (show w2.cell? ⟨b, 4, none⟩ = some _ from HB2.out.cell 4)
            have q5 := cellX (W0 := w2) (show w2.cell? ⟨b, 5, none⟩ = some _ from HB2.out.cell 5)
            have q6 := cellX (W0 := w2) (show w2.cell? ⟨b, 6, none⟩ = some _ from HB2.out.cell 6)
            have p0 := cellX (W0 := w2) f0
            have p1 := cellX (W0 := w2) f1
            have p2 := cellX (W0 := w2) f2
            have p3 := cellX (W0 := w2) f3
            have p4 := cellX (W0 := w2) f4
            have p5 := cellX (W0 := w2) f5
            have p6 := cellX (W0 := w2) f6
            refine wpAnyH_seg (by kernel_rfl) (fun _ _ _ h => h) [3, 4, 5, 6, 7, 8, 9, 10, 11, 12, 13, 14] 4 _ _ _ (Ext.refl _) (by kernel_rfl) ?_
            simp only [opsAt, List.getElem?_toArray, List.getElem?_cons_zero, List.getElem?_cons_succ, List.cons_append, List.nil_append]
            repeat (go_big_quiet_step (fail))
            refine wpQuiet_nil ?_
            clear nA q0 p0 f0 q1 p1 f1 q2 p2 f2 q3 p3 f3 q4 p4 f4 q5 p5 f5 q6 p6 f6
            refine wpAnyH_callE (i := 15) (fuel := 3) 37 rfl (by kernel_rfl) rfl (Ext.refl _) (by kernel_rfl) (f := 65) (args := #[.agg #[.int .u64 z.num, .int .i64 z.node, .int .u64 z.last, .int .u64 z.first, .int .i64 z.count, .bool z.ready, .slice z.ra z.rn z.rc], .agg #[.int .u64 x.num, .int .i64 x.node, .int .u64 x.last, .int .u64 x.first, .int .i64 x.count, .bool x.ready, .slice x.ra x.rn x.rc]]) (by kernel_rfl) (HG.out w2 z x HY2.out HZX.out HX.out) ?_
            rintro e w3 ⟨rfl, y⟩
            refine ⟨_, rfl, y, ?_⟩
            have HY3 : Hid (Below w.heap.size w w3) := ext_trans HY2.out y
            clear y HB2 HY2 HJ2
            simp only [Act.put, List.setIfInBounds_toArray, List.set_cons_succ, List.set_cons_zero]
            cases hx2 : a z x with
            | true =>
              have HRZ : Hid (a z x = true) := hx2
              clear hx2
              haveI nA := cls_ext w3
              refine wpAnyH_seg (by kernel_rfl) (fun _ _ _ h => h) [16, 17, 18] 0 _ _ _ (Ext.refl _) (by kernel_rfl) ?_
              simp only [opsAt, List.getElem?_toArray, List.getElem?_cons_zero, List.getElem?_cons_succ, List.cons_append, List.nil_append]
              repeat (go_big_quiet_step (fail))
              refine wpQuiet_nil ?_
              clear nA
              refine wpAnyH_done (by kernel_rfl) (NoPanic.normal ?_) 0
              go_wp2
              go_roundw
              case rel => exact ⟨k + 1, by go_num, by omega, by rw [allB, HA.out, HV.out, HRX.out, HRZ.out]; rfl, HY3.out⟩
              case measure => simp [intOf]; omega
            | false =>
              have HRZ : Hid (a z x = false) := hx2
              clear hx2
              haveI nA := cls_ext w3
              refine wpAnyH_seg (by kernel_rfl) (fun _ _ _ h => h) [16, 17, 18] 0 _ _ _ (Ext.refl _) (by kernel_rfl) ?_
              simp only [opsAt, List.getElem?_toArray, List.getElem?_cons_zero, List.getElem?_cons_succ, List.cons_append, List.nil_append]
              repeat (go_big_quiet_step (fail))
              refine wpQuiet_nil ?_
              clear nA
              refine wpAnyH_done (by kernel_rfl) (NoPanic.normal ?_) 0
              go_wp2
              go_ret
              exact ⟨ret_bool (by rw [HR.out, allB_false hlt (by rw [HV.out, HRX.out, HRZ.out]; rfl)]; simp), HY3.out⟩
      · have hkn : k = n := by omega
        have HK : Hid (k = n) := hkn
        clear hkn hk
        go_wp2
        go_ret
        exact ⟨ret_bool (by rw [HR.out, ← HK.out, HA.out]; simp; have := HK.out; omega), HY.out⟩

set_option maxRecDepth 100000 in
set_option maxHeartbeats 4000000 in
theorem fitsD_any (v : Value) (l : List DoneV) (m : Nat) (r : DoneV → Bool) (a : DoneV → DoneV → Bool) (d : DoneV) (w : World) (h : RowsN w 3 DoneV.c v l) (hm : m ≤ 1000)
    (hf : ∀ W x, Below w.heap.size w W → x ∈ l → Calls Tryz.prog 67 #[.agg #[.int .u64 x.num, .int .i64 x.node, .slice x.na x.nn x.nc]] W fun e w' => e = .returned (.bool (r x)) ∧ Below W.heap.size W w')
    (hg : ∀ W x y, Below w.heap.size w W → x ∈ l → y ∈ l → Calls Tryz.prog 68 #[.agg #[.int .u64 x.num, .int .i64 x.node, .slice x.na x.nn x.nc], .agg #[.int .u64 y.num, .int .i64 y.node, .slice y.na y.nn y.nc]] W fun e w' => e = .returned (.bool (a x y)) ∧ Below W.heap.size W w') :
    Calls Tryz.prog 66 #[v, .int .i64 (m : Int), .func (.func 67) #[] #[], .func (.func 68) #[] #[]] w fun e w' => e = .returned (.bool (fitsB r a d m l)) ∧ Below w.heap.size w w' := by
  obtain ⟨n, ao, c, rfl⟩ := h.any
  obtain ⟨hn, a1, a2⟩ := h.len
  have HRW0 : Hid (RowsN w 3 DoneV.c (.slice ao n c) l) := h
  have HF : Hid (∀ W x, Below w.heap.size w W → x ∈ l → Calls Tryz.prog 67 #[.agg #[.int .u64 x.num, .int .i64 x.node, .slice x.na x.nn x.nc]] W fun e w' => e = .returned (.bool (r x)) ∧ Below W.heap.size W w') := hf
  have HG : Hid (∀ W x y, Below w.heap.size w W → x ∈ l → y ∈ l → Calls Tryz.prog 68 #[.agg #[.int .u64 x.num, .int .i64 x.node, .slice x.na x.nn x.nc], .agg #[.int .u64 y.num, .int .i64 y.node, .slice y.na y.nn y.nc]] W fun e w' => e = .returned (.bool (a x y)) ∧ Below W.heap.size W w') := hg
  have HN : Hid (l.length = n) := hn.symm
  have HR : Hid (fitsB r a d m l = (decide (n ≤ m) && allB (fitAt r a d l) n)) := by show _ = _; rw [fitsB, ← hn]
  unfold maxLen at a2
  clear h hf hg hn
  go_enter Tryz.func66, Tryz.ntmps66
  by_cases hnm : m < n
  · go_wp2
    go_ret
    exact ⟨ret_bool (by rw [HR.out]; simp; omega), Below.refl _ _⟩
  · go_wp2
    go_loopw [17] (fun i wr => ∃ k : Nat, i = .int .i64 k ∧ k ≤ n ∧ allB (fitAt r a d l) k = true ∧ Below w.heap.size w wr) (fun i _ => n - (intOf i).toNat)
    case atStart => exact ⟨0, rfl, Nat.zero_le _, rfl, Below.refl _ _⟩
    case round =>
      obtain ⟨k, rfl, hk, hall, y⟩ := hrel
      have HA : Hid (allB (fitAt r a d l) k = true) := hall
      have HY : Hid (Below w.heap.size w wr) := y
      clear hall y
      by_cases hlt : k < n
      · have hlt1 : k < l.length := by have := HN.out; omega
        obtain ⟨ad, had⟩ := RowsN.adr HRW0.out (by omega)
        subst had
        have HRW : Hid (RowsN w 3 DoneV.c (.slice (some ad) n c) l) := HRW0.out
        have HH : Hid (RowsN wr 3 DoneV.c (.slice (some ad) n c) l) := HRW.out.below HY.out
        clear HRW0
        have e0 : (wr).cell? (ad.add (k * 3)) = some _ := (HH.out).at0 hlt1 rfl
        have e1 : (wr).cell? ⟨(ad.add (k * 3)).block, (ad.add (k * 3)).off + 1, none⟩ = some _ := (HH.out).atS hlt1 0 rfl
        have e2 : (wr).cell? ⟨(ad.add (k * 3)).block, (ad.add (k * 3)).off + 2, none⟩ = some _ := (HH.out).atS hlt1 1 rfl
        have HX : Hid (l[k] ∈ l) := List.getElem_mem _
        have hint : (k : Int) < (n : Int) := by omega
        clear HH
        by_cases hk0 : k = 0
        · have HV : Hid (fitAt r a d l k = r l[k]) := by show _ = _; subst hk0; exact fit_zero hlt1
          have hp1 : ¬ (0 < k) := by omega
          have hp2 : ¬ ((0 : Int) < (k : Int)) := by omega
          have hp3 : decide ((0 : Int) < (k : Int)) = false := decide_eq_false hp2
          generalize l[k] = x at *
          clear hk0
          go_upto_region 6 with fail
          have HB1 : Hid (Blk (wr.alloc (.cells #[.int .u64 x.num, .int .i64 x.node, .slice x.na x.nn x.nc] 51)) wr.heap.size #[.int .u64 x.num, .int .i64 x.node, .slice x.na x.nn x.nc] 51) := Blk.new _ _ _
          have HY1 : Hid (Below w.heap.size w (wr.alloc (.cells #[.int .u64 x.num, .int .i64 x.node, .slice x.na x.nn x.nc] 51))) := HY.out.alloc HY.out.size _
          clear e0 e1 e2 HY
          generalize wr.alloc (.cells #[.int .u64 x.num, .int .i64 x.node, .slice x.na x.nn x.nc] 51) = w1 at *
          obtain ⟨b, hbb⟩ : ∃ b, wr.heap.size = b := ⟨_, rfl⟩
          rw [hbb] at HB1 ⊢
          clear hbb
          refine wp_region_ext (by kernel_rfl) ?_
          haveI nA := cls_ext w1.drew
          have q0 := cellX (W0 := w1.drew) (show w1.drew.cell? ⟨b, 0, none⟩ = some _ from HB1.out.cell 0)
          have q1 := cellX (W0 := w1.drew) (show w1.drew.cell? ⟨b, 1, none⟩ = some _ from HB1.out.cell 1)
          have q2 := cellX (W0 := w1.drew) (show w1.drew.cell? ⟨b, 2, none⟩ = some _ from HB1.out.cell 2)
          refine wpAnyH_seg (by kernel_rfl) (fun _ _ _ h => h) [0, 1] 17 _ _ _ (Ext.refl _) (by kernel_rfl) ?_
          simp only [opsAt, List.getElem?_toArray, List.getElem?_cons_zero, List.getElem?_cons_succ, List.cons_append, List.nil_append]
          repeat (go_big_quiet_step (fail))
          refine wpQuiet_nil ?_
          clear nA q0 q1 q2
          refine wpAnyH_callE (i := 2) (fuel := 16) 24 rfl (by kernel_rfl) rfl (Ext.refl _) (by kernel_rfl) (f := 67) (args := #[.agg #[.int .u64 x.num, .int .i64 x.node, .slice x.na x.nn x.nc]]) (by kernel_rfl) (HF.out w1.drew x (Below.drew HY1.out) HX.out) ?_
          rintro e w2 ⟨rfl, y⟩
          refine ⟨_, rfl, y, ?_⟩
          have HB2 : Hid (Blk w2 b #[.int .u64 x.num, .int .i64 x.node, .slice x.na x.nn x.nc] 51) := Blk.of HB1.out (y.block _ HB1.out.lt)
          have HY2 : Hid (Below w.heap.size w w2) := ext_trans (Below.drew HY1.out) y
          clear y HB1 HY1
          simp only [Act.put, List.setIfInBounds_toArray, List.set_cons_succ, List.set_cons_zero]
          cases hx : r x with
          | false =>
            have HRX : Hid (r x = false) := hx
            clear hx
            haveI nA := cls_ext w2
            refine wpAnyH_seg (by kernel_rfl) (fun _ _ _ h => h) [3, 4, 5, 6, 7, 8, 9, 10, 11, 12, 13, 14] 4 _ _ _ (Ext.refl _) (by kernel_rfl) ?_
            simp only [opsAt, List.getElem?_toArray, List.getElem?_cons_zero, List.getElem?_cons_succ, List.cons_append, List.nil_append]
            repeat (go_big_quiet_step (fail))
            refine wpQuiet_nil ?_
            clear nA
            refine wpAnyH_all (rs := [15]) (fuel := 3) (by kernel_rfl) (by simp) fun j0 hj0 => ?_
            obtain rfl : j0 = 15 := by simpa using hj0
            clear hj0
            refine wpOp_skip 37 rfl (by kernel_rfl) rfl ?_
            refine ⟨Ext.refl _, ?_⟩
            simp only [Act.put, List.setIfInBounds_toArray, List.set_cons_succ, List.set_cons_zero]
            haveI nA := cls_ext w2
            refine wpAnyH_seg (by kernel_rfl) (fun _ _ _ h => h) [16, 17, 18] 0 _ _ _ (Ext.refl _) (by kernel_rfl) ?_
            simp only [opsAt, List.getElem?_toArray, List.getElem?_cons_zero, List.getElem?_cons_succ, List.cons_append, List.nil_append]
            repeat (go_big_quiet_step (fail))
            refine wpQuiet_nil ?_
            clear nA
            refine wpAnyH_done (by kernel_rfl) (NoPanic.normal ?_) 0
            go_wp2
            go_ret
            exact ⟨ret_bool (by rw [HR.out, allB_false hlt (by rw [HV.out, HRX.out])]; simp), HY2.out⟩
          | true =>
            have HRX : Hid (r x = true) := hx
            clear hx
            haveI nA := cls_ext w2
            refine wpAnyH_seg (by kernel_rfl) (fun _ _ _ h => h) [3, 4, 5, 6, 7, 8, 9, 10, 11, 12, 13, 14] 4 _ _ _ (Ext.refl _) (by kernel_rfl) ?_
            simp only [opsAt, List.getElem?_toArray, List.getElem?_cons_zero, List.getElem?_cons_succ, List.cons_append, List.nil_append]
            repeat (go_big_quiet_step (fail))
            refine wpQuiet_nil ?_
            clear nA
            refine wpAnyH_all (rs := [15]) (fuel := 3) (by kernel_rfl) (by simp) fun j0 hj0 => ?_
            obtain rfl : j0 = 15 := by simpa using hj0
            clear hj0
            refine wpOp_skip 37 rfl (by kernel_rfl) rfl ?_
            refine ⟨Ext.refl _, ?_⟩
            simp only [Act.put, List.setIfInBounds_toArray, List.set_cons_succ, List.set_cons_zero]
            haveI nA := cls_ext w2
            refine wpAnyH_seg (by kernel_rfl) (fun _ _ _ h => h) [16, 17, 18] 0 _ _ _ (Ext.refl _) (by kernel_rfl) ?_
            simp only [opsAt, List.getElem?_toArray, List.getElem?_cons_zero, List.getElem?_cons_succ, List.cons_append, List.nil_append]
            repeat (go_big_quiet_step (fail))
            refine wpQuiet_nil ?_
            clear nA
            refine wpAnyH_done (by kernel_rfl) (NoPanic.normal ?_) 0
            go_wp2
            go_roundw
            case rel => exact ⟨k + 1, by go_num, by omega, by rw [allB, HA.out, HV.out, HRX.out]; rfl, HY2.out⟩
            case measure => simp [intOf]; omega
        · obtain ⟨j, hj⟩ : ∃ j, k - 1 = j := ⟨_, rfl⟩
          have hjl : j < l.length := by omega
          have HV : Hid (fitAt r a d l k = (r l[k] && a l[j] l[k])) := by
            show _ = _
            obtain ⟨k', rfl⟩ : ∃ k', k = k' + 1 := ⟨k - 1, by omega⟩
            have : j = k' := by omega
            subst this
            exact fit_succ hlt1
          have hp1 : 0 < k := by omega
          have hp2 : (0 : Int) < (k : Int) := by omega
          have hwr : IntKind.i64.wrap ((k : Int) - 1) = (j : Int) := by rw [IntKind.wrap_i64]; omega
          have hjn : (j : Int) < (n : Int) := by omega
          have hjn2 : j < n := by omega
          have HZX : Hid (l[j] ∈ l) := List.getElem_mem _
          obtain ⟨z, hz⟩ : ∃ z, l[j] = z := ⟨_, rfl⟩
          have HZ : Hid (l[j] = z) := hz
          rw [hz] at HV HZX
          generalize l[k] = x at *
          clear hk0 hj hz
          go_upto_region 6 with fail
          have HB1 : Hid (Blk (wr.alloc (.cells #[.int .u64 x.num, .int .i64 x.node, .slice x.na x.nn x.nc] 51)) wr.heap.size #[.int .u64 x.num, .int .i64 x.node, .slice x.na x.nn x.nc] 51) := Blk.new _ _ _
          have HY1 : Hid (Below w.heap.size w (wr.alloc (.cells #[.int .u64 x.num, .int .i64 x.node, .slice x.na x.nn x.nc] 51))) := HY.out.alloc HY.out.size _
          clear e0 e1 e2 HY
          generalize wr.alloc (.cells #[.int .u64 x.num, .int .i64 x.node, .slice x.na x.nn x.nc] 51) = w1 at *
          obtain ⟨b, hbb⟩ : ∃ b, wr.heap.size = b := ⟨_, rfl⟩
          rw [hbb] at HB1 ⊢
          clear hbb
          refine wp_region_ext (by kernel_rfl) ?_
          haveI nA := cls_ext w1.drew
          have q0 := cellX (W0 := w1.drew) (show w1.drew.cell? ⟨b, 0, none⟩ = some _ from HB1.out.cell 0)
          have q1 := cellX (W0 := w1.drew) (show w1.drew.cell? ⟨b, 1, none⟩ = some _ from HB1.out.cell 1)
          have q2 := cellX (W0 := w1.drew) (show w1.drew.cell? ⟨b, 2, none⟩ = some _ from HB1.out.cell 2)
          refine wpAnyH_seg (by kernel_rfl) (fun _ _ _ h => h) [0, 1] 17 _ _ _ (Ext.refl _) (by kernel_rfl) ?_
          simp only [opsAt, List.getElem?_toArray, List.getElem?_cons_zero, List.getElem?_cons_succ, List.cons_append, List.nil_append]
          repeat (go_big_quiet_step (fail))
          refine wpQuiet_nil ?_
          clear nA q0 q1 q2
          refine wpAnyH_callE (i := 2) (fuel := 16) 24 rfl (by kernel_rfl) rfl (Ext.refl _) (by kernel_rfl) (f := 67) (args := #[.agg #[.int .u64 x.num, .int .i64 x.node, .slice x.na x.nn x.nc]]) (by kernel_rfl) (HF.out w1.drew x (Below.drew HY1.out) HX.out) ?_
          rintro e w2 ⟨rfl, y⟩
          refine ⟨_, rfl, y, ?_⟩
          have HB2 : Hid (Blk w2 b #[.int .u64 x.num, .int .i64 x.node, .slice x.na x.nn x.nc] 51) := Blk.of HB1.out (y.block _ HB1.out.lt)
          have HY2 : Hid (Below w.heap.size w w2) := ext_trans (Below.drew HY1.out) y
          clear y HB1 HY1
          simp only [Act.put, List.setIfInBounds_toArray, List.set_cons_succ, List.set_cons_zero]
          cases hx : r x with
          | false =>
            have HRX : Hid (r x = false) := hx
            clear hx
            haveI nA := cls_ext w2
            refine wpAnyH_seg (by kernel_rfl) (fun _ _ _ h => h) [3, 4, 5, 6, 7, 8, 9, 10, 11, 12, 13, 14] 4 _ _ _ (Ext.refl _) (by kernel_rfl) ?_
            simp only [opsAt, List.getElem?_toArray, List.getElem?_cons_zero, List.getElem?_cons_succ, List.cons_append, List.nil_append]
            repeat (go_big_quiet_step (fail))
            refine wpQuiet_nil ?_
            clear nA
            refine wpAnyH_all (rs := [15]) (fuel := 3) (by kernel_rfl) (by simp) fun j0 hj0 => ?_
            obtain rfl : j0 = 15 := by simpa using hj0
            clear hj0
            refine wpOp_skip 37 rfl (by kernel_rfl) rfl ?_
            refine ⟨Ext.refl _, ?_⟩
            simp only [Act.put, List.setIfInBounds_toArray, List.set_cons_succ, List.set_cons_zero]
            haveI nA := cls_ext w2
            refine wpAnyH_seg (by kernel_rfl) (fun _ _ _ h => h) [16, 17, 18] 0 _ _ _ (Ext.refl _) (by kernel_rfl) ?_
            simp only [opsAt, List.getElem?_toArray, List.getElem?_cons_zero, List.getElem?_cons_succ, List.cons_append, List.nil_append]
            repeat (go_big_quiet_step (fail))
            refine wpQuiet_nil ?_
            clear nA
            refine wpAnyH_done (by kernel_rfl) (NoPanic.normal ?_) 0
            go_wp2
            go_ret
            exact ⟨ret_bool (by rw [HR.out, allB_false hlt (by rw [HV.out, HRX.out]; rfl)]; simp), HY2.out⟩
          | true =>
            have HRX : Hid (r x = true) := hx
            clear hx
            have HJ2 : Hid (RowsN w2 3 DoneV.c (.slice (some ad) n c) l) := HRW.out.below HY2.out
            have f0 : (w2).cell? (ad.add (j * 3)) = some _ := (HJ2.out).at0 hjl rfl
            have f1 : (w2).cell? ⟨(ad.add (j * 3)).block, (ad.add (j * 3)).off + 1, none⟩ = some _ := (HJ2.out).atS hjl 0 rfl
            have f2 : (w2).cell? ⟨(ad.add (j * 3)).block, (ad.add (j * 3)).off + 2, none⟩ = some _ := (HJ2.out).atS hjl 1 rfl
            rw [HZ.out] at f0 f1 f2
            haveI nA := cls_ext w2
            have q0 := cellX (W0 := w2) (show w2.cell? ⟨b, 0, none⟩ = some _ from HB2.out.cell 0)
            have q1 := cellX (W0 := w2) (show w2.cell? ⟨b, 1, none⟩ = some _ from HB2.out.cell 1)
            have q2 := cellX (W0 := w2) (show w2.cell? ⟨b, 2, none⟩ = some _ from HB2.out.cell 2)
            have p0 := cellX (W0 := w2) f0
            have p1 := cellX (W0 := w2) f1
            have p2 := cellX (W0 := w2) f2
            refine wpAnyH_seg (by kernel_rfl) (fun _ _ _ h => h) [3, 4, 5, 6, 7, 8, 9, 10, 11, 12, 13, 14] 4 _ _ _ (Ext.refl _) (by kernel_rfl) ?_
            simp only [opsAt, List.getElem?_toArray, List.getElem?_cons_zero, List.getElem?_cons_succ, List.cons_append, List.nil_append]
            repeat (go_big_quiet_step (fail))
            refine wpQuiet_nil ?_
            clear nA q0 p0 f0 q1 p1 f1 q2 p2 f2
            refine wpAnyH_callE (i := 15) (fuel := 3) 37 rfl (by kernel_rfl) rfl (Ext.refl _) (by kernel_rfl) (f := 68) (args := #[.agg #[.int .u64 z.num, .int .i64 z.node, .slice z.na z.nn z.nc], .agg #[.int .u64 x.num, .int .i64 x.node, .slice x.na x.nn x.nc]]) (by kernel_rfl) (HG.out w2 z x HY2.out HZX.out HX.out) ?_
            rintro e w3 ⟨rfl, y⟩
            refine ⟨_, rfl, y, ?_⟩
            have HY3 : Hid (Below w.heap.size w w3) := ext_trans HY2.out y
            clear y HB2 HY2 HJ2
            simp only [Act.put, List.setIfInBounds_toArray, List.set_cons_succ, List.set_cons_zero]
            cases hx2 : a z x with
            | true =>
              have HRZ : Hid (a z x = true) := hx2
              clear hx2
              haveI nA := cls_ext w3
              refine wpAnyH_seg (by kernel_rfl) (fun _ _ _ h => h) [16, 17, 18] 0 _ _ _ (Ext.refl _) (by kernel_rfl) ?_
              simp only [opsAt, List.getElem?_toArray, List.getElem?_cons_zero, List.getElem?_cons_succ, List.cons_append, List.nil_append]
              repeat (go_big_quiet_step (fail))
              refine wpQuiet_nil ?_
              clear nA
              refine wpAnyH_done (by kernel_rfl) (NoPanic.normal ?_) 0
              go_wp2
              go_roundw
              case rel => exact ⟨k + 1, by go_num, by omega, by rw [allB, HA.out, HV.out, HRX.out, HRZ.out]; rfl, HY3.out⟩
              case measure => simp [intOf]; omega
            | false =>
              have HRZ : Hid (a z x = false) := hx2
              clear hx2
              haveI nA := cls_ext w3
              refine wpAnyH_seg (by kernel_rfl) (fun _ _ _ h => h) [16, 17, 18] 0 _ _ _ (Ext.refl _) (by kernel_rfl) ?_
              simp only [opsAt, List.getElem?_toArray, List.getElem?_cons_zero, List.getElem?_cons_succ, List.cons_append, List.nil_append]
              repeat (go_big_quiet_step (fail))
              refine wpQuiet_nil ?_
              clear nA
              refine wpAnyH_done (by kernel_rfl) (NoPanic.normal ?_) 0
              go_wp2
              go_ret
              exact ⟨ret_bool (by rw [HR.out, allB_false hlt (by rw [HV.out, HRX.out, HRZ.out]; rfl)]; simp), HY3.out⟩
      · have hkn : k = n := by omega
        have HK : Hid (k = n) := hkn
        clear hkn hk
        go_wp2
        go_ret
        exact ⟨ret_bool (by rw [HR.out, ← HK.out, HA.out]; simp; have := HK.out; omega), HY.out⟩

set_option maxRecDepth 100000 in
set_option maxHeartbeats 4000000 in
theorem fitsC_any (v : Value) (l : List ChgV) (m : Nat) (r : ChgV → Bool) (a : ChgV → ChgV → Bool) (d : ChgV) (w : World) (h : RowsN w 9 ChgV.c v l) (hm : m ≤ 1000)
    (hf : ∀ W x, Below w.heap.size w W → x ∈ l → Calls Tryz.prog 59 #[.agg #[.int .i64 x.n, .int .i64 x.p.kind, .slice x.ka x.kn x.kc, .slice x.va x.vn x.vc, .slice x.da x.dn x.dc, .int .i64 x.p.root, .int .i64 x.p.next, .int .i64 x.p.size, .int .i64 x.p.idle]] W fun e w' => e = .returned (.bool (r x)) ∧ Below W.heap.size W w')
    (hg : ∀ W x y, Below w.heap.size w W → x ∈ l → y ∈ l → Calls Tryz.prog 60 #[.agg #[.int .i64 x.n, .int .i64 x.p.kind, .slice x.ka x.kn x.kc, .slice x.va x.vn x.vc, .slice x.da x.dn x.dc, .int .i64 x.p.root, .int .i64 x.p.next, .int .i64 x.p.size, .int .i64 x.p.idle], .agg #[.int .i64 y.n, .int .i64 y.p.kind, .slice y.ka y.kn y.kc, .slice y.va y.vn y.vc, .slice y.da y.dn y.dc, .int .i64 y.p.root, .int .i64 y.p.next, .int .i64 y.p.size, .int .i64 y.p.idle]] W fun e w' => e = .returned (.bool (a x y)) ∧ Below W.heap.size W w') :
    Calls Tryz.prog 58 #[v, .int .i64 (m : Int), .func (.func 59) #[] #[], .func (.func 60) #[] #[]] w fun e w' => e = .returned (.bool (fitsB r a d m l)) ∧ Below w.heap.size w w' := by
  obtain ⟨n, ao, c, rfl⟩ := h.any
  obtain ⟨hn, a1, a2⟩ := h.len
  have HRW0 : Hid (RowsN w 9 ChgV.c (.slice ao n c) l) := h
  have HF : Hid (∀ W x, Below w.heap.size w W → x ∈ l → Calls Tryz.prog 59 #[.agg #[.int .i64 x.n, .int .i64 x.p.kind, .slice x.ka x.kn x.kc, .slice x.va x.vn x.vc, .slice x.da x.dn x.dc, .int .i64 x.p.root, .int .i64 x.p.next, .int .i64 x.p.size, .int .i64 x.p.idle]] W fun e w' => e = .returned (.bool (r x)) ∧ Below W.heap.size W w') := hf
  have HG : Hid (∀ W x y, Below w.heap.size w W → x ∈ l → y ∈ l → Calls Tryz.prog 60 #[.agg #[.int .i64 x.n, .int .i64 x.p.kind, .slice x.ka x.kn x.kc, .slice x.va x.vn x.vc, .slice x.da x.dn x.dc, .int .i64 x.p.root, .int .i64 x.p.next, .int .i64 x.p.size, .int .i64 x.p.idle], .agg #[.int .i64 y.n, .int .i64 y.p.kind, .slice y.ka y.kn y.kc, .slice y.va y.vn y.vc, .slice y.da y.dn y.dc, .int .i64 y.p.root, .int .i64 y.p.next, .int .i64 y.p.size, .int .i64 y.p.idle]] W fun e w' => e = .returned (.bool (a x y)) ∧ Below W.heap.size W w') := hg
  have HN : Hid (l.length = n) := hn.symm
  have HR : Hid (fitsB r a d m l = (decide (n ≤ m) && allB (fitAt r a d l) n)) := by show _ = _; rw [fitsB, ← hn]
  unfold maxLen at a2
  clear h hf hg hn
  go_enter Tryz.func58, Tryz.ntmps58
  by_cases hnm : m < n
  · go_wp2
    go_ret
    exact ⟨ret_bool (by rw [HR.out]; simp; omega), Below.refl _ _⟩
  · go_wp2
    go_loopw [17] (fun i wr => ∃ k : Nat, i = .int .i64 k ∧ k ≤ n ∧ allB (fitAt r a d l) k = true ∧ Below w.heap.size w wr) (fun i _ => n - (intOf i).toNat)
    case atStart => exact ⟨0, rfl, Nat.zero_le _, rfl, Below.refl _ _⟩
    case round =>
      obtain ⟨k, rfl, hk, hall, y⟩ := hrel
      have HA : Hid (allB (fitAt r a d l) k = true) := hall
      have HY : Hid (Below w.heap.size w wr) := y
      clear hall y
      by_cases hlt : k < n
      · have hlt1 : k < l.length := by have := HN.out; omega
        obtain ⟨ad, had⟩ := RowsN.adr HRW0.out (by omega)
        subst had
        have HRW : Hid (RowsN w 9 ChgV.c (.slice (some ad) n c) l) := HRW0.out
        have HH : Hid (RowsN wr 9 ChgV.c (.slice (some ad) n c) l) := HRW.out.below HY.out
        clear HRW0
        have e0 : (wr).cell? (ad.add (k * 9)) = some _ := (HH.out).at0 hlt1 rfl
        have e1 : (wr).cell? ⟨(ad.add (k * 9)).block, (ad.add (k * 9)).off + 1, none⟩ = some _ := (HH.out).atS hlt1 0 rfl
        have e2 : (wr).cell? ⟨(ad.add (k * 9)).block, (ad.add (k * 9)).off + 2, none⟩ = some _ := (HH.out).atS hlt1 1 rfl
        have e3 : (wr).cell? ⟨(ad.add (k * 9)).block, (ad.add (k * 9)).off + 3, none⟩ = some _ := (HH.out).atS hlt1 2 rfl
        have e4 : (wr).cell? ⟨(ad.add (k * 9)).block, (ad.add (k * 9)).off + 4, none⟩ = some _ := (HH.out).atS hlt1 3 rfl
        have e5 : (wr).cell? ⟨(ad.add (k * 9)).block, (ad.add (k * 9)).off + 5, none⟩ = some _ := (HH.out).atS hlt1 4 rfl
        have e6 : (wr).cell? ⟨(ad.add (k * 9)).block, (ad.add (k * 9)).off + 6, none⟩ = some _ := (HH.out).atS hlt1 5 rfl
        have e7 : (wr).cell? ⟨(ad.add (k * 9)).block, (ad.add (k * 9)).off + 7, none⟩ = some _ := (HH.out).atS hlt1 6 rfl
        have e8 : (wr).cell? ⟨(ad.add (k * 9)).block, (ad.add (k * 9)).off + 8, none⟩ = some _ := (HH.out).atS hlt1 7 rfl
        have HX : Hid (l[k] ∈ l) := List.getElem_mem _
        have hint : (k : Int) < (n : Int) := by omega
        clear HH
        by_cases hk0 : k = 0
        · have HV : Hid (fitAt r a d l k = r l[k]) := by show _ = _; subst hk0; exact fit_zero hlt1
          have hp1 : ¬ (0 < k) := by omega
          have hp2 : ¬ ((0 : Int) < (k : Int)) := by omega
          have hp3 : decide ((0 : Int) < (k : Int)) = false := decide_eq_false hp2
          generalize l[k] = x at *
          clear hk0
          go_upto_region 6 with fail
          have HB1 : Hid (Blk (wr.alloc (.cells #[.int .i64 x.n, .int .i64 x.p.kind, .slice x.ka x.kn x.kc, .slice x.va x.vn x.vc, .slice x.da x.dn x.dc, .int .i64 x.p.root, .int .i64 x.p.next, .int .i64 x.p.size, .int .i64 x.p.idle] 49)) wr.heap.size #[.int .i64 x.n, .int .i64 x.p.kind, .slice x.ka x.kn x.kc, .slice x.va x.vn x.vc, .slice x.da x.dn x.dc, .int .i64 x.p.root, .int .i64 x.p.next, .int .i64 x.p.size, .int .i64 x.p.idle] 49) := Blk.new _ _ _
          have HY1 : Hid (Below w.heap.size w (wr.alloc (.cells #[.int .i64 x.n, .int .i64 x.p.kind, .slice x.ka x.kn x.kc, .slice x.va x.vn x.vc, .slice x.da x.dn x.dc, .int .i64 x.p.root, .int .i64 x.p.next, .int .i64 x.p.size, .int .i64 x.p.idle] 49))) := HY.out.alloc HY.out.size _
          clear e0 e1 e2 e3 e4 e5 e6 e7 e8 HY
          generalize wr.alloc (.cells #[.int .i64 x.n, .int .i64 x.p.kind, .slice x.ka x.kn x.kc, .slice x.va x.vn x.vc, .slice x.da x.dn x.dc, .int .i64 x.p.root, .int .i64 x.p.next, .int .i64 x.p.size, .int .i64 x.p.idle] 49) = w1 at *
          obtain ⟨b, hbb⟩ : ∃ b, wr.heap.size = b := ⟨_, rfl⟩
          rw [hbb] at HB1 ⊢
          clear hbb
          refine wp_region_ext (by kernel_rfl) ?_
          haveI nA := cls_ext w1.drew
          have q0 := cellX (W0 := w1.drew) (show w1.drew.cell? ⟨b, 0, none⟩ = some _ from HB1.out.cell 0)
          have q1 := cellX (W0 := w1.drew) (show w1.drew.cell? ⟨b, 1, none⟩ = some _ from HB1.out.cell 1)
          have q2 := cellX (W0 := w1.drew) (show w1.drew.cell? ⟨b, 2, none⟩ = some _ from HB1.out.cell 2)
          have q3 := cellX (W0 := w1.drew) (show w1.drew.cell? ⟨b, 3, none⟩ = some _ from HB1.out.cell 3)
          have q4 := cellX (W0 := w1.drew) (show w1.drew.cell? ⟨b, 4, none⟩ = some _ from HB1.out.cell 4)
          have q5 := cellX (W0 := w1.drew) (show w1.drew.cell? ⟨b, 5, none⟩ = some _ from HB1.out.cell 5)
          have q6 := cellX (W0 := w1.drew) (show w1.drew.cell? ⟨b, 6, none⟩ = some _ from HB1.out.cell 6)
          have q7 := cellX (W0 := w1.drew) (show w1.drew.cell? ⟨b, 7, none⟩ = some _ from HB1.out.cell 7)
          have q8 := cellX (W0 := w1.drew) (show w1.drew.cell? ⟨b, 8, none⟩ = some _ from HB1.out.cell 8)
          refine wpAnyH_seg (by kernel_rfl) (fun _ _ _ h => h) [0, 1] 17 _ _ _ (Ext.refl _) (by kernel_rfl) ?_
          simp only [opsAt, List.getElem?_toArray, List.getElem?_cons_zero, List.getElem?_cons_succ, List.cons_append, List.nil_append]
          repeat (go_big_quiet_step (fail))
          refine wpQuiet_nil ?_
          clear nA q0 q1 q2 q3 q4 q5 q6 q7 q8
          refine wpAnyH_callE (i := 2) (fuel := 16) 24 rfl (by kernel_rfl) rfl (Ext.refl _) (by kernel_rfl) (f := 59) (args := #[.agg #[.int .i64 x.n, .int .i64 x.p.kind, .slice x.ka x.kn x.kc, .slice x.va x.vn x.vc, .slice x.da x.dn x.dc, .int .i64 x.p.root, .int .i64 x.p.next, .int .i64 x.p.size, .int .i64 x.p.idle]]) (by kernel_rfl) (HF.out w1.drew x (Below.drew HY1.out) HX.out) ?_
          rintro e w2 ⟨rfl, y⟩
          refine ⟨_, rfl, y, ?_⟩
          have HB2 : Hid (Blk w2 b #[.int .i64 x.n, .int .i64 x.p.kind, .slice x.ka x.kn x.kc, .slice x.va x.vn x.vc, .slice x.da x.dn x.dc, .int .i64 x.p.root, .int .i64 x.p.next, .int .i64 x.p.size, .int .i64 x.p.idle] 49) := Blk.of HB1.out (y.block _ HB1.out.lt)
          have HY2 : Hid (Below w.heap.size w w2) := ext_trans (Below.drew HY1.out) y
          clear y HB1 HY1
          simp only [Act.put, List.setIfInBounds_toArray, List.set_cons_succ, List.set_cons_zero]
          cases hx : r x with
          | false =>
            have HRX : Hid (r x = false) := hx
            clear hx
            haveI nA := cls_ext w2
            refine wpAnyH_seg (by kernel_rfl) (fun _ _ _ h => h) [3, 4, 5, 6, 7, 8, 9, 10, 11, 12, 13, 14] 4 _ _ _ (Ext.refl _) (by kernel_rfl) ?_
            simp only [opsAt, List.getElem?_toArray, List.getElem?_cons_zero, List.getElem?_cons_succ, List.cons_append, List.nil_append]
            repeat (go_big_quiet_step (fail))
            refine wpQuiet_nil ?_
            clear nA
            refine wpAnyH_all (rs := [15]) (fuel := 3) (by kernel_rfl) (by simp) fun j0 hj0 => ?_
            obtain rfl : j0 = 15 := by simpa using hj0
            clear hj0
            refine wpOp_skip 37 rfl (by kernel_rfl) rfl ?_
            refine ⟨Ext.refl _, ?_⟩
            simp only [Act.put, List.setIfInBounds_toArray, List.set_cons_succ, List.set_cons_zero]
            haveI nA := cls_ext w2
            refine wpAnyH_seg (by kernel_rfl) (fun _ _ _ h => h) [16, 17, 18] 0 _ _ _ (Ext.refl _) (by kernel_rfl) ?_
            simp only [opsAt, List.getElem?_toArray, List.getElem?_cons_zero, List.getElem?_cons_succ, List.cons_append, List.nil_append]
            repeat (go_big_quiet_step (fail))
            refine wpQuiet_nil ?_
            clear nA
            refine wpAnyH_done (by kernel_rfl) (NoPanic.normal ?_) 0
            go_wp2
            go_ret
            exact ⟨ret_bool (by rw [HR.out, allB_false hlt (by rw [HV.out, HRX.out])]; simp), HY2.out⟩
          | true =>
            have HRX : Hid (r x = true) := hx
            clear hx
            haveI nA := cls_ext w2
            refine wpAnyH_seg (by kernel_rfl) (fun _ _ _ h => h) [3, 4, 5, 6, 7, 8, 9, 10, 11, 12, 13, 14] 4 _ _ _ (Ext.refl _) (by kernel_rfl) ?_
            simp only [opsAt, List.getElem?_toArray, List.getElem?_cons_zero, List.getElem?_cons_succ, List.cons_append, List.nil_append]
            repeat (go_big_quiet_step (fail))
            refine wpQuiet_nil ?_
            clear nA
            refine wpAnyH_all (rs := [15]) (fuel := 3) (by kernel_rfl) (by simp) fun j0 hj0 => ?_
            obtain rfl : j0 = 15 := by simpa using hj0
            clear hj0
            refine wpOp_skip 37 rfl (by kernel_rfl) rfl ?_
            refine ⟨Ext.refl _, ?_⟩
            simp only [Act.put, List.setIfInBounds_toArray, List.set_cons_succ, List.set_cons_zero]
            haveI nA := cls_ext w2
            refine wpAnyH_seg (by kernel_rfl) (fun _ _ _ h => h) [16, 17, 18] 0 _ _ _ (Ext.refl _) (by kernel_rfl) ?_
            simp only [opsAt, List.getElem?_toArray, List.getElem?_cons_zero, List.getElem?_cons_succ, List.cons_append, List.nil_append]
            repeat (go_big_quiet_step (fail))
            refine wpQuiet_nil ?_
            clear nA
            refine wpAnyH_done (by kernel_rfl) (NoPanic.normal ?_) 0
            go_wp2
            go_roundw
            case rel => exact ⟨k + 1, by go_num, by omega, by rw [allB, HA.out, HV.out, HRX.out]; rfl, HY2.out⟩
            case measure => simp [intOf]; omega
        · obtain ⟨j, hj⟩ : ∃ j, k - 1 = j := ⟨_, rfl⟩
          have hjl : j < l.length := by omega
          have HV : Hid (fitAt r a d l k = (r l[k] && a l[j] l[k])) := by
            show _ = _
            obtain ⟨k', rfl⟩ : ∃ k', k = k' + 1 := ⟨k - 1, by omega⟩
            have : j = k' := by omega
            subst this
            exact fit_succ hlt1
          have hp1 : 0 < k := by omega
          have hp2 : (0 : Int) < (k : Int) := by omega
          have hwr : IntKind.i64.wrap ((k : Int) - 1) = (j : Int) := by rw [IntKind.wrap_i64]; omega
          have hjn : (j : Int) < (n : Int) := by omega
          have hjn2 : j < n := by omega
          have HZX : Hid (l[j] ∈ l) := List.getElem_mem _
          obtain ⟨z, hz⟩ : ∃ z, l[j] = z := ⟨_, rfl⟩
          have HZ : Hid (l[j] = z) := hz
          rw [hz] at HV HZX
          generalize l[k] = x at *
          clear hk0 hj hz
          go_upto_region 6 with fail
          have HB1 : Hid (Blk (wr.alloc (.cells #[.int .i64 x.n, .int .i64 x.p.kind, .slice x.ka x.kn x.kc, .slice x.va x.vn x.vc, .slice x.da x.dn x.dc, .int .i64 x.p.root, .int .i64 x.p.next, .int .i64 x.p.size, .int .i64 x.p.idle] 49)) wr.heap.size #[.int .i64 x.n, .int .i64 x.p.kind, .slice x.ka x.kn x.kc, .slice x.va x.vn x.vc, .slice x.da x.dn x.dc, .int .i64 x.p.root, .int .i64 x.p.next, .int .i64 x.p.size, .int .i64 x.p.idle] 49) := Blk.new _ _ _
          have HY1 : Hid (Below w.heap.size w (wr.alloc (.cells #[.int .i64 x.n, .int .i64 x.p.kind, .slice x.ka x.kn x.kc, .slice x.va x.vn x.vc, .slice x.da x.dn x.dc, .int .i64 x.p.root, .int .i64 x.p.next, .int .i64 x.p.size, .int .i64 x.p.idle] 49))) := HY.out.alloc HY.out.size _
          clear e0 e1 e2 e3 e4 e5 e6 e7 e8 HY
          generalize wr.alloc (.cells #[.int .i64 x.n, .int .i64 x.p.kind, .slice x.ka x.kn x.kc, .slice x.va x.vn x.vc, .slice x.da x.dn x.dc, .int .i64 x.p.root, .int .i64 x.p.next, .int .i64 x.p.size, .int .i64 x.p.idle] 49) = w1 at *
          obtain ⟨b, hbb⟩ : ∃ b, wr.heap.size = b := ⟨_, rfl⟩
          rw [hbb] at HB1 ⊢
          clear hbb
          refine wp_region_ext (by kernel_rfl) ?_
          haveI nA := cls_ext w1.drew
          have q0 := cellX (W0 := w1.drew) (show w1.drew.cell? ⟨b, 0, none⟩ = some _ from HB1.out.cell 0)
          have q1 := cellX (W0 := w1.drew) (show w1.drew.cell? ⟨b, 1, none⟩ = some _ from HB1.out.cell 1)
          have q2 := cellX (W0 := w1.drew) (show w1.drew.cell? ⟨b, 2, none⟩ = some _ from HB1.out.cell 2)
          have q3 := cellX (W0 := w1.drew) (show w1.drew.cell? ⟨b, 3, none⟩ = some _ from HB1.out.cell 3)
          have q4 := cellX (W0 := w1.drew) (show w1.drew.cell? ⟨b, 4, none⟩ = some _ from HB1.out.cell 4)
          have q5 := cellX (W0 := w1.drew) (show w1.drew.cell? ⟨b, 5, none⟩ = some _ from HB1.out.cell 5)
          have q6 := cellX (W0 := w1.drew) (show w1.drew.cell? ⟨b, 6, none⟩ = some _ from HB1.out.cell 6)
          have q7 := cellX (W0 := w1.drew) (show w1.drew.cell? ⟨b, 7, none⟩ = some _ from HB1.out.cell 7)
          have q8 := cellX (W0 := w1.drew) (show w1.drew.cell? ⟨b, 8, none⟩ = some _ from HB1.out.cell 8)
          refine wpAnyH_seg (by kernel_rfl) (fun _ _ _ h => h) [0, 1] 17 _ _ _ (Ext.refl _) (by kernel_rfl) ?_
          simp only [opsAt, List.getElem?_toArray, List.getElem?_cons_zero, List.getElem?_cons_succ, List.cons_append, List.nil_append]
          repeat (go_big_quiet_step (fail))
          refine wpQuiet_nil ?_
          clear nA q0 q1 q2 q3 q4 q5 q6 q7 q8
          refine wpAnyH_callE (i := 2) (fuel := 16) 24 rfl (by kernel_rfl) rfl (Ext.refl _) (by kernel_rfl) (f := 59) (args := #[.agg #[.int .i64 x.n, .int .i64 x.p.kind, .slice x.ka x.kn x.kc, .slice x.va x.vn x.vc, .slice x.da x.dn x.dc, .int .i64 x.p.root, .int .i64 x.p.next, .int .i64 x.p.size, .int .i64 x.p.idle]]) (by kernel_rfl) (HF.out w1.drew x (Below.drew HY1.out) HX.out) ?_
          rintro e w2 ⟨rfl, y⟩
          refine ⟨_, rfl, y, ?_⟩
          have HB2 : Hid (Blk w2 b #[.int .i64 x.n, .int .i64 x.p.kind, .slice x.ka x.kn x.kc, .slice x.va x.vn x.vc, .slice x.da x.dn x.dc, .int .i64 x.p.root, .int .i64 x.p.next, .int .i64 x.p.size, .int .i64 x.p.idle] 49) := Blk.of HB1.out (y.block _ HB1.out.lt)
          have HY2 : Hid (Below w.heap.size w w2) := ext_trans (Below.drew HY1.out) y
          clear y HB1 HY1
          simp only [Act.put, List.setIfInBounds_toArray, List.set_cons_succ, List.set_cons_zero]
          cases hx : r x with
          | false =>
            have HRX : Hid (r x = false) := hx
            clear hx
            haveI nA := cls_ext w2
            refine wpAnyH_seg (by kernel_rfl) (fun _ _ _ h => h) [3, 4, 5, 6, 7, 8, 9, 10, 11, 12, 13, 14] 4 _ _ _ (Ext.refl _) (by kernel_rfl) ?_
            simp only [opsAt, List.getElem?_toArray, List.getElem?_cons_zero, List.getElem?_cons_succ, List.cons_append, List.nil_append]
            repeat (go_big_quiet_step (fail))
            refine wpQuiet_nil ?_
            clear nA
            refine wpAnyH_all (rs := [15]) (fuel := 3) (by kernel_rfl) (by simp) fun j0 hj0 => ?_
            obtain rfl : j0 = 15 := by simpa using hj0
            clear hj0
            refine wpOp_skip 37 rfl (by kernel_rfl) rfl ?_
            refine ⟨Ext.refl _, ?_⟩
            simp only [Act.put, List.setIfInBounds_toArray, List.set_cons_succ, List.set_cons_zero]
            haveI nA := cls_ext w2
            refine wpAnyH_seg (by kernel_rfl) (fun _ _ _ h => h) [16, 17, 18] 0 _ _ _ (Ext.refl _) (by kernel_rfl) ?_
            simp only [opsAt, List.getElem?_toArray, List.getElem?_cons_zero, List.getElem?_cons_succ, List.cons_append, List.nil_append]
            repeat (go_big_quiet_step (fail))
            refine wpQuiet_nil ?_
            clear nA
            refine wpAnyH_done (by kernel_rfl) (NoPanic.normal ?_) 0
            go_wp2
            go_ret
            exact ⟨ret_bool (by rw [HR.out, allB_false hlt (by rw [HV.out, HRX.out]; rfl)]; simp), HY2.out⟩
          | true =>
            have HRX : Hid (r x = true) := hx
            clear hx
            have HJ2 : Hid (RowsN w2 9 ChgV.c (.slice (some ad) n c) l) := HRW.out.below HY2.out
            have f0 : (w2).cell? (ad.add (j * 9)) = some _ := (HJ2.out).at0 hjl rfl
            have f1 : (w2).cell? ⟨(ad.add (j * 9)).block, (ad.add (j * 9)).off + 1, none⟩ = some _ := (HJ2.out).atS hjl 0 rfl
            have f2 : (w2).cell? ⟨(ad.add (j * 9)).block, (ad.add (j * 9)).off + 2, none⟩ = some _ := (HJ2.out).atS hjl 1 rfl
            have f3 : (w2).cell? ⟨(ad.add (j * 9)).block, (ad.add (j * 9)).off + 3, none⟩ = some _ := (HJ2.out).atS hjl 2 rfl
            have f4 : (w2).cell? ⟨(ad.add (j * 9)).block, (ad.add (j * 9)).off + 4, none⟩ = some _ := (HJ2.out).atS hjl 3 rfl
            have f5 : (w2).cell? ⟨(ad.add (j * 9)).block, (ad.add (j * 9)).off + 5, none⟩ = some _ := (HJ2.out).atS hjl 4 rfl
            have f6 : (w2).cell? ⟨(ad.add (j * 9)).block, (ad.add (j * 9)).off + 6, none⟩ = some _ := (HJ2.out).atS hjl 5 rfl
            have f7 : (w2).cell? ⟨(ad.add (j * 9)).block, (ad.add (j * 9)).off + 7, none⟩ = some _ := (HJ2.out).atS hjl 6 rfl
            have f8 : (w2).cell? ⟨(ad.add (j * 9)).block, (ad.add (j * 9)).off + 8, none⟩ = some _ := (HJ2.out).atS hjl 7 rfl
            rw [HZ.out] at f0 f1 f2 f3 f4 f5 f6 f7 f8
            haveI nA := cls_ext w2
            have q0 := cellX (W0 := w2) (show w2.cell? ⟨b, 0, none⟩ = some _ from HB2.out.cell 0)
            have q1 := cellX (W0 := w2) (show w2.cell? ⟨b, 1, none⟩ = some _ from HB2.out.cell 1)
            have q2 := cellX (W0 := w2) (show w2.cell? ⟨b, 2, none⟩ = some _ from HB2.out.cell 2)
            have q3 := cellX (W0 := w2) (show w2.cell? ⟨b, 3, none⟩ = some _ from HB2.out.cell 3)
            have q4 := cellX (W0 := w2) (show w2.cell? ⟨b, 4, none⟩ = some _ from HB2.out.cell 4)
            have q5 := cellX (W0 := w2) (show w2.cell? ⟨b, 5, none⟩ = some _ from HB2.out.cell 5)
            have q6 := cellX (W0 := w2) (show w2.cell? ⟨b, 6, none⟩ = some _ from HB2.out.cell 6)
            have q7 := cellX (W0 := w2) (show w2.cell? ⟨b, 7, none⟩ = some _ from HB2.out.cell 7)
            have q8 := cellX (W0 := w2) (show w2.cell? ⟨b, 8, none⟩ = some _ from HB2.out.cell 8)
            have p0 := cellX (W0 := w2) f0
            have p1 := cellX (W0 := w2) f1
            have p2 := cellX (W0 := w2) f2
            have p3 := cellX (W0 := w2) f3
            have p4 := cellX (W0 := w2) f4
            have p5 := cellX (W0 := w2) f5
            have p6 := cellX (W0 := w2) f6
            have p7 := cellX (W0 := w2) f7
            have p8 := cellX (W0 := w2) f8
            refine wpAnyH_seg (by kernel_rfl) (fun _ _ _ h => h) [3, 4, 5, 6, 7, 8, 9, 10, 11, 12, 13, 14] 4 _ _ _ (Ext.refl _) (by kernel_rfl) ?_
            simp only [opsAt, List.getElem?_toArray, List.getElem?_cons_zero, List.getElem?_cons_succ, List.cons_append, List.nil_append]
            repeat (go_big_quiet_step (fail))
            refine wpQuiet_nil ?_
            clear nA q0 p0 f0 q1 p1 f1 q2 p2 f2 q3 p3 f3 q4 p4 f4 q5 p5 f5 q6 p6 f6 q7 p7 f7 q8 p8 f8
            refine wpAnyH_callE (i := 15) (fuel := 3) 37 rfl (by kernel_rfl) rfl (Ext.refl _) (by kernel_rfl) (f := 60) (args := #[.agg #[.int .i64 z.n, .int .i64 z.p.kind, .slice z.ka z.kn z.kc, .slice z.va z.vn z.vc, .slice z.da z.dn z.dc, .int .i64 z.p.root, .int .i64 z.p.next, .int .i64 z.p.size, .int .i64 z.p.idle], .agg #[.int .i64 x.n, .int .i64 x.p.kind, .slice x.ka x.kn x.kc, .slice x.va x.vn x.vc, .slice x.da x.dn x.dc, .int .i64 x.p.root, .int .i64 x.p.next, .int .i64 x.p.size, .int .i64 x.p.idle]]) (by kernel_rfl) (HG.out w2 z x HY2.out HZX.out HX.out) ?_
            rintro e w3 ⟨rfl, y⟩
            refine ⟨_, rfl, y, ?_⟩
            have HY3 : Hid (Below w.heap.size w w3) := ext_trans HY2.out y
            clear y HB2 HY2 HJ2
            simp only [Act.put, List.setIfInBounds_toArray, List.set_cons_succ, List.set_cons_zero]
            cases hx2 : a z x with
            | true =>
              have HRZ : Hid (a z x = true) := hx2
              clear hx2
              haveI nA := cls_ext w3
              refine wpAnyH_seg (by kernel_rfl) (fun _ _ _ h => h) [16, 17, 18] 0 _ _ _ (Ext.refl _) (by kernel_rfl) ?_
              simp only [opsAt, List.getElem?_toArray, List.getElem?_cons_zero, List.getElem?_cons_succ, List.cons_append, List.nil_append]
              repeat (go_big_quiet_step (fail))
              refine wpQuiet_nil ?_
              clear nA
              refine wpAnyH_done (by kernel_rfl) (NoPanic.normal ?_) 0
              go_wp2
              go_roundw
              case rel => exact ⟨k + 1, by go_num, by omega, by rw [allB, HA.out, HV.out, HRX.out, HRZ.out]; rfl, HY3.out⟩
              case measure => simp [intOf]; omega
            | false =>
              have HRZ : Hid (a z x = false) := hx2
              clear hx2
              haveI nA := cls_ext w3
              refine wpAnyH_seg (by kernel_rfl) (fun _ _ _ h => h) [16, 17, 18] 0 _ _ _ (Ext.refl _) (by kernel_rfl) ?_
              simp only [opsAt, List.getElem?_toArray, List.getElem?_cons_zero, List.getElem?_cons_succ, List.cons_append, List.nil_append]
              repeat (go_big_quiet_step (fail))
              refine wpQuiet_nil ?_
              clear nA
              refine wpAnyH_done (by kernel_rfl) (NoPanic.normal ?_) 0
              go_wp2
              go_ret
              exact ⟨ret_bool (by rw [HR.out, allB_false hlt (by rw [HV.out, HRX.out, HRZ.out]; rfl)]; simp), HY3.out⟩
      · have hkn : k = n := by omega
        have HK : Hid (k = n) := hkn
        clear hkn hk
        go_wp2
        go_ret
        exact ⟨ret_bool (by rw [HR.out, ← HK.out, HA.out]; simp; have := HK.out; omega), HY.out⟩
end Go.Proofs.YtbgofajldkblmaaGreat

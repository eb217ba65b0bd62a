/- net: a new net; the law's head. Own lemmas, no statement. -/
import Derived.Test.YtcemecclpofhbaaNet6
import Derived.Lib.SlBytesConst
import Derived.Lib.SmallJoins
set_option linter.unusedSimpArgs false
set_option linter.unusedVariables false
namespace Go.Proofs.Ytcemecclpofhbaa
open Go.ChangeShapes Go.WideShapes Go.ChangeAt Go.RowKit

theorem NetI.new (W : World) : NetI (W.alloc (.cells #[.slice none 0 0] 27)) W.heap.size W.heap.size (.slice none 0 0) [] :=
  ⟨Blk.new _ _ _, Nat.le_refl _, World.ownsRow_nil _ _ _ _, (fun x hx => by cases hx), List.Pairwise.nil, Nat.zero_le _⟩
theorem src_one (w : World) (c : UInt8) : Src (w.alloc (.cells #[.int .u8 (c.toNat : Int)] 5 (1, 2))) (.slice (some ⟨w.heap.size, 0, none⟩) 1 1) [c] :=
  ⟨some ⟨w.heap.size, 0, none⟩, 1, rfl, Nat.le_refl _, by unfold maxLen; omega, fun e => (by cases e), fun ad e j u hu => by
    cases e
    have hh : (w.alloc (.cells #[.int .u8 (c.toNat : Int)] 5 (1, 2))).heap[w.heap.size]? = some (.cells #[.int .u8 (c.toNat : Int)] 5 (1, 2)) := heap_alloc_new w _
    rw [Addr.add_mid, Nat.zero_add]
    simp only [World.cell?, hh]
    rw [if_neg (by simp)]
    rw [← List.getElem?_toArray] at hu
    exact hu⟩
/-- What Send does where it may. -/
theorem send_ok {B p : Nat} {v : Value} {ls : List LetV} {to_ : Int} {l : List UInt8} {w : World} {e : Ending} {w' : World} (h : SendP B p v ls to_ l w e w') (ht : 0 ≤ to_ ∧ to_ < 64) (hl : l.length ≤ 200) (hn : ls.length < 2000) :
    e = .returned (.int .i64 0) ∧ ∃ v' x, x.dst = to_ ∧ x.bs = l ∧ NetI w' B p v' (ls ++ [x]) ∧ Chg (fun i => i = p ∨ v.ownBlock = some i) w w' ∧ ∀ i, FP p v' (ls ++ [x]) i → FP p v ls i ∨ w.heap.size ≤ i := by
  rcases h with ⟨h, _⟩ | ⟨_, h, _⟩ | ⟨_, _, h⟩
  · omega
  · omega
  · exact h
theorem NetI.base_below {W W' : World} {B p : Nat} {v : Value} {ls : List LetV} (h : NetI W B p v ls) (hc : Chg (fun i => i = p ∨ v.ownBlock = some i) W W') : Below B W W' :=
  Chg.below hc (by have := h.base; have := h.blk.lt; omega) (fun i hi => by
    rcases hi with e | e
    · rw [e]; exact h.base
    · exact (h.own.lt i e).1)
theorem take_ok {B p : Nat} {v : Value} {ls : List LetV} {i : Nat} {x : LetV} {w : World} {e : Ending} {w' : World} (h : TakeP B p v ls (i : Int) w e w') (hx : ls[i]? = some x) :
    ∃ a' c', e = .returned (.tuple #[.agg #[.int .i64 x.dst, .slice a' x.bs.length c'], .bool true]) ∧ Own w' w.heap.size (.slice a' x.bs.length c') x.bs ∧ ∃ v', NetI w' B p v' (ls.eraseIdx i) ∧ Chg (fun i => i = p ∨ v.ownBlock = some i) w w' ∧ ∀ j, FP p v' (ls.eraseIdx i) j → FP p v ls j := by
  rcases h with ⟨h, _⟩ | ⟨y, k, a', c', hk, hy, he, ho, hn⟩
  · have h1 := (List.getElem?_eq_some_iff.1 hx).1
    exact absurd h (by unfold inB; rw [decide_eq_true (by omega)]; decide)
  · have e1 : k = i := by omega
    subst e1
    rw [hx] at hy
    cases hy
    exact ⟨a', c', he, ho, hn⟩
theorem at_ok {ls : List LetV} {i : Nat} {x : LetV} {w : World} {e : Ending} {w' : World} (h : AtP ls (i : Int) w e w') (hx : ls[i]? = some x) :
    ∃ a' c', e = .returned (.tuple #[.agg #[.int .i64 x.dst, .slice a' x.bs.length c'], .bool true]) ∧ Own w' w.heap.size (.slice a' x.bs.length c') x.bs ∧ Below w.heap.size w w' := by
  obtain ⟨h, hb⟩ := h
  rcases h with ⟨h, _⟩ | ⟨y, k, a', c', hk, hy, he, ho⟩
  · have h1 := (List.getElem?_eq_some_iff.1 hx).1
    exact absurd h (by unfold inB; rw [decide_eq_true (by omega)]; decide)
  · have e1 : k = i := by omega
    subst e1
    rw [hx] at hy
    cases hy
    exact ⟨a', c', he, ho, hb⟩
set_option maxRecDepth 100000 in
set_option maxHeartbeats 4000000 in
theorem head16_any (w : World) : Calls Try.prog 7 #[] w fun e w' => e = .returned (.bool true) ∧ Below w.heap.size w w' := by
  obtain ⟨w1, hw1⟩ : ∃ w1, w1 = (w.alloc (.cells #[.slice none 0 0] 27)).alloc (.cells #[.int .u8 97] 5 (1, 2)) := ⟨_, rfl⟩
  have HN1 : Hid (NetI w1 w.heap.size w.heap.size (.slice none 0 0) []) := by rw [hw1]; exact (NetI.new w).below (below_allocR _)
  have HY1 : Hid (Below w.heap.size w w1) := by rw [hw1]; exact ext_trans (below_allocR _) (below_allocR _)
  have HS1 : Hid (Src w1 (.slice (some ⟨w.heap.size + 1, 0, none⟩) 1 1) [97]) := by
    rw [hw1]
    have := src_one (w.alloc (.cells #[.slice none 0 0] 27)) 97
    rw [show (w.alloc (.cells #[.slice none 0 0] 27)).heap.size = w.heap.size + 1 by simp] at this
    exact this
  have HX : Hid (Calls _ _ _ _ _) := send_any w.heap.size w.heap.size _ [] 1 _ 1 1 [97] w1 HN1.out HS1.out (by decide)
  have kc := fun (w : World) (C : Array Value) (n c : Nat) => Lib.run_convert_bytes_const (P := Try.prog) w 28 5 C n c Try.underlying28 Try.underlying5
  have kc2 : (convert 28 28 (.slice (some ⟨w.heap.size + 1, 0, none⟩) 1 1)).run Try.prog ((w.alloc (.cells #[.slice none 0 0] 27)).alloc (.cells #[.int .u8 97] 5)) = .ok (.slice (some ⟨w.heap.size + 1, 0, none⟩) 1 1) ((w.alloc (.cells #[.slice none 0 0] 27)).alloc (.cells #[.int .u8 97] 5 (1, 2))) := by
    have := kc (w.alloc (.cells #[.slice none 0 0] 27)) #[.int .u8 97] 1 1
    rw [show (w.alloc (.cells #[.slice none 0 0] 27)).heap.size = w.heap.size + 1 by simp] at this
    exact this
  go_enter Try.func7, Try.ntmps7
  go_wp2_with fail
  rw [← hw1]
  clear hw1
  refine HX.out.mono ?_
  rintro e w2 hs
  obtain ⟨rfl, v2, x, hd, hb, hN, hC, hF⟩ := send_ok hs (by decide) (by decide) (by decide)
  have HX1 : Hid (x.dst = 1 ∧ x.bs = [97]) := ⟨hd, hb⟩
  have HN2 : Hid (NetI w2 w.heap.size w.heap.size v2 [x]) := hN
  have HY2 : Hid (Below w.heap.size w w2) := HY1.out.trans (HN1.out.base_below hC)
  clear hs hd hb hN hC hF HX HS1 HN1 HY1
  obtain ⟨w3, hw3⟩ : ∃ w3, w3 = w2.alloc (.cells #[.int .u8 98] 5 (1, 2)) := ⟨_, rfl⟩
  have HN3 : Hid (NetI w3 w.heap.size w.heap.size v2 [x]) := by rw [hw3]; exact HN2.out.below (below_allocR _)
  have HY3 : Hid (Below w.heap.size w w3) := by rw [hw3]; exact HY2.out.alloc HY2.out.size _
  have HS3 : Hid (Src w3 (.slice (some ⟨w2.heap.size, 0, none⟩) 1 1) [98]) := by rw [hw3]; exact src_one w2 98
  have HX : Hid (Calls _ _ _ _ _) := send_any w.heap.size w.heap.size _ [x] 2 _ 1 1 [98] w3 HN3.out HS3.out (by decide)
  go_wp2_with fail
  rw [← hw3]
  clear hw3
  refine HX.out.mono ?_
  rintro e w4 hs
  obtain ⟨rfl, v4, x2, hd, hb, hN, hC, hF⟩ := send_ok hs (by decide) (by decide) (by simp)
  have HX2 : Hid (x2.dst = 2 ∧ x2.bs = [98]) := ⟨hd, hb⟩
  have HN4 : Hid (NetI w4 w.heap.size w.heap.size v4 [x, x2]) := hN
  have HY4 : Hid (Below w.heap.size w w4) := HY3.out.trans (HN3.out.base_below hC)
  clear hs hd hb hN hC hF HX HS3 HN3 HY3 HN2 HY2
  have HX : Hid (Calls _ _ _ _ _) := take_any w.heap.size w.heap.size v4 [x, x2] 0 w4 HN4.out (by decide)
  go_wp2_with fail
  refine HX.out.mono ?_
  rintro e w5 ht
  obtain ⟨a5, c5, rfl, hO, v5, hN, hC, hF⟩ := take_ok (i := 0) ht (x := x) rfl
  have HN5 : Hid (NetI w5 w.heap.size w.heap.size v5 [x2]) := hN
  have HY5 : Hid (Below w.heap.size w w5) := HY4.out.trans (HN4.out.base_below hC)
  rw [HX1.out.2] at hO
  rw [HX1.out.1, HX1.out.2]
  simp only [List.length_cons, List.length_nil, Nat.zero_add]
  have HO5 : Hid (Own w5 w4.heap.size (.slice a5 1 c5) [97]) := hO
  clear ht hO hN hC hF HX HN4
  obtain ⟨w6, hw6⟩ : ∃ w6, w6 = w5.alloc (.cells #[.int .i64 1, .slice a5 1 c5] 34) := ⟨_, rfl⟩
  have HN6 : Hid (NetI w6 w.heap.size w.heap.size v5 [x2]) := by rw [hw6]; exact HN5.out.below (below_allocR _)
  have HY6 : Hid (Below w.heap.size w w6) := by rw [hw6]; exact HY5.out.alloc HY5.out.size _
  have HO6 : Hid (Own w6 w4.heap.size (.slice a5 1 c5) [97]) := by rw [hw6]; exact HO5.out.alloc _
  have HB6 : Hid (Blk w6 w5.heap.size #[.int .i64 1, .slice a5 1 c5] 34) := by rw [hw6]; exact Blk.new _ _ _
  have HX : Hid (Calls _ _ _ _ _) := at_any w.heap.size w.heap.size v5 [x2] 0 w6 HN6.out
  go_upto_region 5 with fail
  rw [← hw6]
  clear hw6
  generalize w5.heap.size = q at *
  go_wp2_with fail
  refine HX.out.mono ?_
  rintro e w7 ht
  obtain ⟨a7, c7, rfl, hO, y⟩ := at_ok (i := 0) ht (x := x2) rfl
  rw [HX2.out.2] at hO
  rw [HX2.out.1, HX2.out.2]
  simp only [List.length_cons, List.length_nil, Nat.zero_add]
  have HY7 : Hid (Below w.heap.size w w7) := ext_trans HY6.out y
  have HO7 : Hid (Own w7 w4.heap.size (.slice a5 1 c5) [97]) := HO6.out.below y
  have HB7 : Hid (Blk w7 q #[.int .i64 1, .slice a5 1 c5] 34) := HB6.out.of (y.block _ HB6.out.lt)
  clear ht hO y HX HN5 HN6 HY5 HY6 HO6 HB6
  obtain ⟨w8, hw8⟩ : ∃ w8, w8 = w7.alloc (.cells #[.int .i64 2, .slice a7 1 c7] 34) := ⟨_, rfl⟩
  have HY8 : Hid (Below w.heap.size w w8) := by rw [hw8]; exact HY7.out.alloc HY7.out.size _
  have HO8 : Hid (Own w8 w4.heap.size (.slice a5 1 c5) [97]) := by rw [hw8]; exact HO7.out.alloc _
  have HB8 : Hid (Blk w8 q #[.int .i64 1, .slice a5 1 c5] 34) := by rw [hw8]; exact HB7.out.alloc _
  have HC8 : Hid (Blk w8 w7.heap.size #[.int .i64 2, .slice a7 1 c7] 34) := by rw [hw8]; exact Blk.new _ _ _
  go_upto_region 6 with fail
  rw [← hw8]
  clear hw8 HY7 HO7 HB7
  generalize w7.heap.size = r at *
  have z0 : w8.cell? ⟨q, 0, none⟩ = some (.int .i64 1) := HB8.out.cell 0
  have z1 : w8.cell? ⟨q, 1, none⟩ = some (.slice a5 1 c5) := HB8.out.cell 1
  have y0 : w8.cell? ⟨r, 0, none⟩ = some (.int .i64 2) := HC8.out.cell 0
  have y1 : w8.cell? ⟨r, 1, none⟩ = some (.slice a7 1 c7) := HC8.out.cell 1
  have hs : (convert 28 9 (.slice a5 1 c5)).run Try.prog w8 = .ok (.string ⟨#[97]⟩) w8 := HO8.out.src.str
  go_wp2
  go_ret
  exact ⟨rfl, HY8.out⟩
end Go.Proofs.Ytcemecclpofhbaa

import Derived.Test.YthkmohcdgnldgaaGreatRec12
import Derived.Test.YthkmohcdgnldgaaGreatRec7
import Derived.Test.YthkmohcdgnldgaaGreatG2
/- rec: the law's own rising and keys, of right ones. Own lemmas, no statement. -/
set_option linter.unusedSimpArgs false
set_option linter.unusedVariables false
namespace Go.Proofs.YthkmohcdgnldgaaGreat
open Go.ChangeShapes Go.WideShapes Go.ChangeAt Go.RowKit

def OkP (w : World) (e : Ending) (w' : World) : Prop := e = .returned (.bool true) ∧ Below w.heap.size w w'
theorem fits_at {α : Type} {r : α → Bool} {a : α → α → Bool} {d : α} {m : Nat} {l : List α} (h : fitsB r a d m l = true) {k : Nat} (hk : k < l.length) : r l[k] = true ∧ (∀ j (hj : j < l.length), k = j + 1 → a l[j] l[k] = true) := by
  unfold fitsB at h
  rw [Bool.and_eq_true, allB_iff] at h
  have h1 := h.2 k hk
  unfold fitAt at h1
  rw [Bool.and_eq_true, getD_of hk] at h1
  refine ⟨h1.1, fun j hj e => ?_⟩
  subst e
  rw [show j + 1 - 1 = j from rfl, getD_of hj, decide_eq_false (by omega), Bool.false_or] at h1
  exact h1.2
def lastN (ns : List Int) (k : Nat) : Int := if k = 0 then -1 else ns.getD (k - 1) 0
set_option maxRecDepth 100000 in
set_option maxHeartbeats 4000000 in
theorem rising_ok (u : Value) (ns : List Int) (w : World) (hu : Rd w u (iv ns)) (hn : nodesOk ns = true) : Calls Tryz.prog 23 #[u] w (OkP w) := by
  obtain ⟨un, uo, uc, rfl⟩ := hu.any2
  have hun : un = ns.length := by have := hu.at.1; rw [iv_length] at this; exact this
  have HN : Hid (un = ns.length) := hun
  have hub : un ≤ 64 := by have := (nodes_bounds hn).1; omega
  have HU : Hid (Rd w (.slice uo un uc) (iv ns)) := hu
  have HE : Hid (∀ k (hk : k < ns.length), lastN ns k < ns[k] ∧ ns[k] ≤ 63 ∧ lastN ns (k + 1) = ns[k]) := fun k hk => by
    obtain ⟨h1, h2⟩ := fits_at hn hk
    have h3 := nodeOk_bounds h1
    refine ⟨?_, by omega, ?_⟩
    · unfold lastN
      split
      · omega
      · rename_i h0
        rw [getD_of (show k - 1 < ns.length by omega)]
        have := h2 (k - 1) (by omega) (by omega)
        unfold ltI at this
        exact of_decide_eq_true this
    · unfold lastN
      rw [if_neg (by omega), show k + 1 - 1 = k from rfl, getD_of hk]
  clear hu hun hn
  go_enter Tryz.func23, Tryz.ntmps23
  go_wp2
  go_loopw [3, 8] (fun lv i wr => ∃ k : Nat, i = .int .i64 (k : Int) ∧ lv = .int .i64 (lastN ns k) ∧ k ≤ un ∧ w = wr) (fun _ i _ => un - (intOf i).toNat)
  case atStart => exact ⟨0, rfl, rfl, Nat.zero_le _, rfl⟩
  case round =>
    obtain ⟨k, rfl, rfl, hk, rfl⟩ := hrel
    by_cases hlt : k < un
    · have hkl : k < ns.length := by rw [← HN.out]; exact hlt
      have hi2 : (k : Int) < (un : Int) := by omega
      obtain ⟨ad, had⟩ := HU.out.at.2.2.2.ad (by rw [iv_length]; omega)
      subst had
      have y1 := HU.out.at.2.2.2.num rfl hkl
      obtain ⟨e1, e2, e3⟩ := HE.out k hkl
      have HL : Hid (lastN ns (k + 1) = ns[k]) := e3
      clear e3
      generalize ns[k] = x at *
      generalize lastN ns k = y at *
      have e4 : ¬ x ≤ y := by omega
      have e5 : ¬ 63 < x := by omega
      go_wp2
      go_roundw
      case rel => exact ⟨k + 1, by go_num, by rw [HL.out], by omega, trivial⟩
      case measure => simp [intOf]; omega
    · go_wp2
      go_ret
      exact ⟨rfl, Below.refl _ _⟩
set_option maxRecDepth 100000 in
set_option maxHeartbeats 4000000 in
theorem keys_ok (u : Value) (ss : List ByteArray) (w : World) (hu : Rd w u (sv ss)) (hn : readsOk ss = true) : Calls Tryz.prog 24 #[u] w (OkP w) := by
  obtain ⟨un, uo, uc, rfl⟩ := hu.any2
  have hun : un = ss.length := by have := hu.at.1; rw [sv_length] at this; exact this
  have HN : Hid (un = ss.length) := hun
  have hub : un ≤ 100 := by have := (reads_bounds hn).1; omega
  have HU : Hid (Rd w (.slice uo un uc) (sv ss)) := hu
  have HE : Hid (readsOk ss = true) := hn
  clear hu hun hn
  go_enter Tryz.func24, Tryz.ntmps24
  go_wp2
  go_loopw [7] (fun i wr => ∃ k : Nat, i = .int .i64 (k : Int) ∧ k ≤ un ∧ w = wr) (fun i _ => un - (intOf i).toNat)
  case atStart => exact ⟨0, rfl, Nat.zero_le _, rfl⟩
  case round =>
    obtain ⟨k, rfl, hk, rfl⟩ := hrel
    by_cases hlt : k < un
    · have hkl : k < ss.length := by rw [← HN.out]; exact hlt
      have hi2 : (k : Int) < (un : Int) := by omega
      have ha := HU.out.at.2.2.2
      obtain ⟨ad, had⟩ := ha.ad (by rw [sv_length]; omega)
      subst had
      have y1 := ha.str rfl hkl
      obtain ⟨e1, e2⟩ := fits_at HE.out hkl
      have h1 : 1 ≤ ss[k].size ∧ ss[k].size ≤ 24 := by unfold keyOk at e1; simpa only [Bool.and_eq_true, decide_eq_true_eq] using e1
      obtain ⟨h2, h3⟩ := h1
      clear e1
      rcases (show k = 0 ∨ ∃ m, k = m + 1 from by cases k; exact .inl rfl; exact .inr ⟨_, rfl⟩) with hk0 | ⟨m, hm⟩
      · have hk1 : ¬ 0 < k := by omega
        have hk2 : ¬ (0 : Int) < (k : Int) := by omega
        generalize ss[k] = x at *
        clear ha e2 hkl hk0
        go_wp2
        go_roundw
        case rel => exact ⟨k + 1, by go_num, by omega, trivial⟩
        case measure => simp [intOf]; omega
      · have hml : m < ss.length := by omega
        have y2 := ha.str rfl hml
        have hb : Op.bytesLess ss[m].toList ss[k].toList = true := e2 m hml hm
        have hk1 : 0 < k := by omega
        have hk2 : (0 : Int) < (k : Int) := by omega
        have hk3 : (k : Int) - 1 = (m : Int) := by omega
        have hk4 : m < un := by omega
        generalize ss[k] = x at *
        generalize ss[m] = z at *
        clear ha e2 hkl hml hm
        go_wp2
        go_roundw
        case rel => exact ⟨k + 1, by go_num, by omega, trivial⟩
        case measure => simp [intOf]; omega
    · clear hk
      go_wp2
      go_ret
      exact ⟨ret_bool (by simp; omega), Below.refl _ _⟩
theorem tid_ok (x y : Int) (w : World) (h : tidOk x y = true) : Calls Tryz.prog 22 #[.agg #[.int .u64 x, .int .i64 y]] w (OkP w) := by
  have h1 := tid11_any x y w
  rw [h] at h1
  exact h1
theorem elder_ok (x y x' y' : Int) (w : World) (h : elderT x y x' y' = true) : Calls Tryz.prog 26 #[.agg #[.int .u64 x, .int .i64 y], .agg #[.int .u64 x', .int .i64 y']] w (OkP w) := by
  have h1 := elderT_any x y x' y' w
  rw [h] at h1
  exact h1
theorem page_ok (p : Pg) (kv vv dv : Value) (w : World) (hp : PgAt w p kv vv dv) (hok : p.Ok) (h : rightPg p = true) : Calls Tryz.prog 25 #[pgv p kv vv dv] w (OkP w) := by
  have h1 := right_any p kv vv dv w hp hok
  rw [h] at h1
  exact h1
end Go.Proofs.YthkmohcdgnldgaaGreat
/- rec: the law's own right, of right records. Own lemmas, no statement. -/
set_option linter.unusedSimpArgs false
set_option linter.unusedVariables false
namespace Go.Proofs.YthkmohcdgnldgaaGreat
open Go.ChangeShapes Go.WideShapes Go.ChangeAt Go.RowKit

set_option maxRecDepth 100000 in
set_option maxHeartbeats 8000000 in
theorem right11_2 (num : Int) (node : Int) (prev : Int) (na : Option Addr) (nc : Nat) (ra : Option Addr) (rc : Nat) (ga : Option Addr) (gn : Nat) (gc : Nat) (oa : Option Addr) (oc : Nat) (da : Option Addr) (dc : Nat) (ns : List Int) (rs : List ByteArray) (gs : List ChgV) (os : List OpenV) (ds : List DoneV) (w : World) (htid : tidOk num node = true) (hns : Rd w (.slice na 0 nc) (iv ns)) (hnk : nodesOk ns = true) (hrs : Rd w (.slice ra 0 rc) (sv rs)) (hrk : readsOk rs = true) (hprev : prev ≤ 4611686018427387904) (hg : RowsN w 9 ChgV.c (.slice ga gn gc) gs) (hga : ∀ c ∈ gs, c.At w) (hgo : fitsB chgOk chgLt noChg 30 gs = true) :
    Calls Tryz.prog 10 #[.agg #[.int .i64 2, .int .u64 num, .int .i64 node, .string (⟨#[]⟩ : ByteArray), .bool false, .string (⟨#[]⟩ : ByteArray), .int .u64 prev, .slice na 0 nc, .slice ra 0 rc, .slice ga gn gc, .slice oa 0 oc, .slice da 0 dc]] w (OkP w) := by
  have HNS : Hid (Rd w (.slice na 0 nc) (iv ns) ∧ nodesOk ns = true) := ⟨hns, hnk⟩
  have HRS : Hid (Rd w (.slice ra 0 rc) (sv rs) ∧ readsOk rs = true) := ⟨hrs, hrk⟩
  have HTI : Hid (tidOk num node = true) := htid
  have HG : Hid (RowsN w 9 ChgV.c (.slice ga gn gc) gs) := hg
  have HGA : Hid (∀ c ∈ gs, c.At w) := hga
  have HGO : Hid (fitsB chgOk chgLt noChg 30 gs = true) := hgo
  have hgm : gn ≤ 30 := by have h1 := hg.len.1; have h2 := (fits_mem hgo).1; omega
  clear hg hga hgo
  clear htid hns hnk hrs hrk
  have HB : Hid (Blk (w.alloc (.cells #[.int .i64 2, .int .u64 num, .int .i64 node, .string (⟨#[]⟩ : ByteArray), .bool false, .string (⟨#[]⟩ : ByteArray), .int .u64 prev, .slice na 0 nc, .slice ra 0 rc, .slice ga gn gc, .slice oa 0 oc, .slice da 0 dc] 31)) w.heap.size #[.int .i64 2, .int .u64 num, .int .i64 node, .string (⟨#[]⟩ : ByteArray), .bool false, .string (⟨#[]⟩ : ByteArray), .int .u64 prev, .slice na 0 nc, .slice ra 0 rc, .slice ga gn gc, .slice oa 0 oc, .slice da 0 dc] 31) := Blk.new _ _ _
  have HY : Hid (Below w.heap.size w (w.alloc (.cells #[.int .i64 2, .int .u64 num, .int .i64 node, .string (⟨#[]⟩ : ByteArray), .bool false, .string (⟨#[]⟩ : ByteArray), .int .u64 prev, .slice na 0 nc, .slice ra 0 rc, .slice ga gn gc, .slice oa 0 oc, .slice da 0 dc] 31))) := (Below.refl _ _).alloc (Nat.le_refl _) _
  go_enter Tryz.func10, Tryz.ntmps10
  go_upto_region 1 with fail
  generalize (w.alloc (.cells #[.int .i64 2, .int .u64 num, .int .i64 node, .string (⟨#[]⟩ : ByteArray), .bool false, .string (⟨#[]⟩ : ByteArray), .int .u64 prev, .slice na 0 nc, .slice ra 0 rc, .slice ga gn gc, .slice oa 0 oc, .slice da 0 dc] 31)) = w0 at *
  have z0 : w0.cell? ⟨w.heap.size, 0, none⟩ = some (.int .i64 2) := HB.out.cell 0
  have z1 : w0.cell? ⟨w.heap.size, 1, none⟩ = some (.int .u64 num) := HB.out.cell 1
  have z2 : w0.cell? ⟨w.heap.size, 2, none⟩ = some (.int .i64 node) := HB.out.cell 2
  have z3 : w0.cell? ⟨w.heap.size, 3, none⟩ = some (.string (⟨#[]⟩ : ByteArray)) := HB.out.cell 3
  have z4 : w0.cell? ⟨w.heap.size, 4, none⟩ = some (.bool false) := HB.out.cell 4
  have z5 : w0.cell? ⟨w.heap.size, 5, none⟩ = some (.string (⟨#[]⟩ : ByteArray)) := HB.out.cell 5
  have z6 : w0.cell? ⟨w.heap.size, 6, none⟩ = some (.int .u64 prev) := HB.out.cell 6
  have z7 : w0.cell? ⟨w.heap.size, 7, none⟩ = some (.slice na 0 nc) := HB.out.cell 7
  have z8 : w0.cell? ⟨w.heap.size, 8, none⟩ = some (.slice ra 0 rc) := HB.out.cell 8
  have z9 : w0.cell? ⟨w.heap.size, 9, none⟩ = some (.slice ga gn gc) := HB.out.cell 9
  have z10 : w0.cell? ⟨w.heap.size, 10, none⟩ = some (.slice oa 0 oc) := HB.out.cell 10
  have z11 : w0.cell? ⟨w.heap.size, 11, none⟩ = some (.slice da 0 dc) := HB.out.cell 11
  go_wp2_with fail
  refine (tid_ok num node w0 HTI.out).mono ?_
  rintro e w1 ⟨rfl, y⟩
  have HB' : Hid (Blk w1 w.heap.size #[.int .i64 2, .int .u64 num, .int .i64 node, .string (⟨#[]⟩ : ByteArray), .bool false, .string (⟨#[]⟩ : ByteArray), .int .u64 prev, .slice na 0 nc, .slice ra 0 rc, .slice ga gn gc, .slice oa 0 oc, .slice da 0 dc] 31) := Blk.of HB.out (y.block _ HB.out.lt)
  have HY' : Hid (Below w.heap.size w w1) := ext_trans HY.out y
  clear HB HY y
  clear z0 z1 z2 z3 z4 z5 z6 z7 z8 z9 z10 z11
  have HB := HB'
  have HY := HY'
  clear HB' HY'
  have z0 : w1.cell? ⟨w.heap.size, 0, none⟩ = some (.int .i64 2) := HB.out.cell 0
  have z1 : w1.cell? ⟨w.heap.size, 1, none⟩ = some (.int .u64 num) := HB.out.cell 1
  have z2 : w1.cell? ⟨w.heap.size, 2, none⟩ = some (.int .i64 node) := HB.out.cell 2
  have z3 : w1.cell? ⟨w.heap.size, 3, none⟩ = some (.string (⟨#[]⟩ : ByteArray)) := HB.out.cell 3
  have z4 : w1.cell? ⟨w.heap.size, 4, none⟩ = some (.bool false) := HB.out.cell 4
  have z5 : w1.cell? ⟨w.heap.size, 5, none⟩ = some (.string (⟨#[]⟩ : ByteArray)) := HB.out.cell 5
  have z6 : w1.cell? ⟨w.heap.size, 6, none⟩ = some (.int .u64 prev) := HB.out.cell 6
  have z7 : w1.cell? ⟨w.heap.size, 7, none⟩ = some (.slice na 0 nc) := HB.out.cell 7
  have z8 : w1.cell? ⟨w.heap.size, 8, none⟩ = some (.slice ra 0 rc) := HB.out.cell 8
  have z9 : w1.cell? ⟨w.heap.size, 9, none⟩ = some (.slice ga gn gc) := HB.out.cell 9
  have z10 : w1.cell? ⟨w.heap.size, 10, none⟩ = some (.slice oa 0 oc) := HB.out.cell 10
  have z11 : w1.cell? ⟨w.heap.size, 11, none⟩ = some (.slice da 0 dc) := HB.out.cell 11
  go_wp2_with fail
  refine (rising_ok _ ns w1 (HNS.out.1.below HY.out) HNS.out.2).mono ?_
  rintro e w2 ⟨rfl, y⟩
  have HB' : Hid (Blk w2 w.heap.size #[.int .i64 2, .int .u64 num, .int .i64 node, .string (⟨#[]⟩ : ByteArray), .bool false, .string (⟨#[]⟩ : ByteArray), .int .u64 prev, .slice na 0 nc, .slice ra 0 rc, .slice ga gn gc, .slice oa 0 oc, .slice da 0 dc] 31) := Blk.of HB.out (y.block _ HB.out.lt)
  have HY' : Hid (Below w.heap.size w w2) := ext_trans HY.out y
  clear HB HY y
  clear z0 z1 z2 z3 z4 z5 z6 z7 z8 z9 z10 z11
  have HB := HB'
  have HY := HY'
  clear HB' HY'
  have z0 : w2.cell? ⟨w.heap.size, 0, none⟩ = some (.int .i64 2) := HB.out.cell 0
  have z1 : w2.cell? ⟨w.heap.size, 1, none⟩ = some (.int .u64 num) := HB.out.cell 1
  have z2 : w2.cell? ⟨w.heap.size, 2, none⟩ = some (.int .i64 node) := HB.out.cell 2
  have z3 : w2.cell? ⟨w.heap.size, 3, none⟩ = some (.string (⟨#[]⟩ : ByteArray)) := HB.out.cell 3
  have z4 : w2.cell? ⟨w.heap.size, 4, none⟩ = some (.bool false) := HB.out.cell 4
  have z5 : w2.cell? ⟨w.heap.size, 5, none⟩ = some (.string (⟨#[]⟩ : ByteArray)) := HB.out.cell 5
  have z6 : w2.cell? ⟨w.heap.size, 6, none⟩ = some (.int .u64 prev) := HB.out.cell 6
  have z7 : w2.cell? ⟨w.heap.size, 7, none⟩ = some (.slice na 0 nc) := HB.out.cell 7
  have z8 : w2.cell? ⟨w.heap.size, 8, none⟩ = some (.slice ra 0 rc) := HB.out.cell 8
  have z9 : w2.cell? ⟨w.heap.size, 9, none⟩ = some (.slice ga gn gc) := HB.out.cell 9
  have z10 : w2.cell? ⟨w.heap.size, 10, none⟩ = some (.slice oa 0 oc) := HB.out.cell 10
  have z11 : w2.cell? ⟨w.heap.size, 11, none⟩ = some (.slice da 0 dc) := HB.out.cell 11
  go_wp2_with fail
  refine (keys_ok _ rs w2 (HRS.out.1.below HY.out) HRS.out.2).mono ?_
  rintro e w3 ⟨rfl, y⟩
  have HB' : Hid (Blk w3 w.heap.size #[.int .i64 2, .int .u64 num, .int .i64 node, .string (⟨#[]⟩ : ByteArray), .bool false, .string (⟨#[]⟩ : ByteArray), .int .u64 prev, .slice na 0 nc, .slice ra 0 rc, .slice ga gn gc, .slice oa 0 oc, .slice da 0 dc] 31) := Blk.of HB.out (y.block _ HB.out.lt)
  have HY' : Hid (Below w.heap.size w w3) := ext_trans HY.out y
  clear HB HY y
  clear z0 z1 z2 z3 z4 z5 z6 z7 z8 z9 z10 z11
  have HB := HB'
  have HY := HY'
  clear HB' HY'
  have z0 : w3.cell? ⟨w.heap.size, 0, none⟩ = some (.int .i64 2) := HB.out.cell 0
  have z1 : w3.cell? ⟨w.heap.size, 1, none⟩ = some (.int .u64 num) := HB.out.cell 1
  have z2 : w3.cell? ⟨w.heap.size, 2, none⟩ = some (.int .i64 node) := HB.out.cell 2
  have z3 : w3.cell? ⟨w.heap.size, 3, none⟩ = some (.string (⟨#[]⟩ : ByteArray)) := HB.out.cell 3
  have z4 : w3.cell? ⟨w.heap.size, 4, none⟩ = some (.bool false) := HB.out.cell 4
  have z5 : w3.cell? ⟨w.heap.size, 5, none⟩ = some (.string (⟨#[]⟩ : ByteArray)) := HB.out.cell 5
  have z6 : w3.cell? ⟨w.heap.size, 6, none⟩ = some (.int .u64 prev) := HB.out.cell 6
  have z7 : w3.cell? ⟨w.heap.size, 7, none⟩ = some (.slice na 0 nc) := HB.out.cell 7
  have z8 : w3.cell? ⟨w.heap.size, 8, none⟩ = some (.slice ra 0 rc) := HB.out.cell 8
  have z9 : w3.cell? ⟨w.heap.size, 9, none⟩ = some (.slice ga gn gc) := HB.out.cell 9
  have z10 : w3.cell? ⟨w.heap.size, 10, none⟩ = some (.slice oa 0 oc) := HB.out.cell 10
  have z11 : w3.cell? ⟨w.heap.size, 11, none⟩ = some (.slice da 0 dc) := HB.out.cell 11
  go_wp2
  clear z0 z1 z2 z3 z4 z5 z6 z7 z8 z9 z10 z11
  go_loopw [155] (fun i wr => ∃ k : Nat, i = .int .i64 (k : Int) ∧ k ≤ gn ∧ Below w.heap.size w wr ∧ Blk wr w.heap.size #[.int .i64 2, .int .u64 num, .int .i64 node, .string (⟨#[]⟩ : ByteArray), .bool false, .string (⟨#[]⟩ : ByteArray), .int .u64 prev, .slice na 0 nc, .slice ra 0 rc, .slice ga gn gc, .slice oa 0 oc, .slice da 0 dc] 31) (fun i _ => gn - (intOf i).toNat)
  case atStart => exact ⟨0, rfl, Nat.zero_le _, HY.out, HB.out⟩
  case round =>
    obtain ⟨k, rfl, hk, hy, hb⟩ := hrel
    clear HY HB
    have HY : Hid (Below w.heap.size w wr) := hy
    have HB : Hid (Blk wr w.heap.size #[.int .i64 2, .int .u64 num, .int .i64 node, .string (⟨#[]⟩ : ByteArray), .bool false, .string (⟨#[]⟩ : ByteArray), .int .u64 prev, .slice na 0 nc, .slice ra 0 rc, .slice ga gn gc, .slice oa 0 oc, .slice da 0 dc] 31) := hb
    clear hy hb
    by_cases hlt : k < gn
    · have hkl : k < gs.length := by rw [← HG.out.len.1]; exact hlt
      have hi2 : (k : Int) < (gn : Int) := by omega
      obtain ⟨ad, had⟩ := RowsN.adr HG.out (by omega)
      subst had
      have HH : Hid (RowsN wr 9 _ (.slice (some ad) _ _) gs) := HG.out.below HY.out
      have e0 : wr.cell? (ad.add (k * 9)) = some _ := HH.out.at0 hkl rfl
      have e1 : wr.cell? ⟨(ad.add (k * 9)).block, (ad.add (k * 9)).off + 1, none⟩ = some _ := HH.out.atS hkl 0 rfl
      have e2 : wr.cell? ⟨(ad.add (k * 9)).block, (ad.add (k * 9)).off + 2, none⟩ = some _ := HH.out.atS hkl 1 rfl
      have e3 : wr.cell? ⟨(ad.add (k * 9)).block, (ad.add (k * 9)).off + 3, none⟩ = some _ := HH.out.atS hkl 2 rfl
      have e4 : wr.cell? ⟨(ad.add (k * 9)).block, (ad.add (k * 9)).off + 4, none⟩ = some _ := HH.out.atS hkl 3 rfl
      have e5 : wr.cell? ⟨(ad.add (k * 9)).block, (ad.add (k * 9)).off + 5, none⟩ = some _ := HH.out.atS hkl 4 rfl
      have e6 : wr.cell? ⟨(ad.add (k * 9)).block, (ad.add (k * 9)).off + 6, none⟩ = some _ := HH.out.atS hkl 5 rfl
      have e7 : wr.cell? ⟨(ad.add (k * 9)).block, (ad.add (k * 9)).off + 7, none⟩ = some _ := HH.out.atS hkl 6 rfl
      have e8 : wr.cell? ⟨(ad.add (k * 9)).block, (ad.add (k * 9)).off + 8, none⟩ = some _ := HH.out.atS hkl 7 rfl
      obtain ⟨hr1, hr2⟩ := fits_at HGO.out hkl
      have HR1 : Hid (_ = true) := hr1
      have HR2 : Hid (∀ j (hj : j < gs.length), k = j + 1 → _ = true) := hr2
      have HQA : Hid (gs[k].At w) := HGA.out _ (List.getElem_mem hkl)
      clear hr1 hr2
      generalize gs[k] = q at *
      have HY' : Hid (Below w.heap.size w (wr.alloc (.cells #[.int .i64 q.n, .int .i64 q.p.kind, .slice q.ka q.kn q.kc, .slice q.va q.vn q.vc, .slice q.da q.dn q.dc, .int .i64 q.p.root, .int .i64 q.p.next, .int .i64 q.p.size, .int .i64 q.p.idle] 49))) := HY.out.alloc HY.out.size _
      have HB' : Hid (Blk (wr.alloc (.cells #[.int .i64 q.n, .int .i64 q.p.kind, .slice q.ka q.kn q.kc, .slice q.va q.vn q.vc, .slice q.da q.dn q.dc, .int .i64 q.p.root, .int .i64 q.p.next, .int .i64 q.p.size, .int .i64 q.p.idle] 49)) w.heap.size #[.int .i64 2, .int .u64 num, .int .i64 node, .string (⟨#[]⟩ : ByteArray), .bool false, .string (⟨#[]⟩ : ByteArray), .int .u64 prev, .slice na 0 nc, .slice ra 0 rc, .slice (some ad) gn gc, .slice oa 0 oc, .slice da 0 dc] 31) := HB.out.alloc _
      have HQ : Hid (Blk (wr.alloc (.cells #[.int .i64 q.n, .int .i64 q.p.kind, .slice q.ka q.kn q.kc, .slice q.va q.vn q.vc, .slice q.da q.dn q.dc, .int .i64 q.p.root, .int .i64 q.p.next, .int .i64 q.p.size, .int .i64 q.p.idle] 49)) wr.heap.size #[.int .i64 q.n, .int .i64 q.p.kind, .slice q.ka q.kn q.kc, .slice q.va q.vn q.vc, .slice q.da q.dn q.dc, .int .i64 q.p.root, .int .i64 q.p.next, .int .i64 q.p.size, .int .i64 q.p.idle] 49) := Blk.new _ _ _
      have HH' : Hid (RowsN (wr.alloc (.cells #[.int .i64 q.n, .int .i64 q.p.kind, .slice q.ka q.kn q.kc, .slice q.va q.vn q.vc, .slice q.da q.dn q.dc, .int .i64 q.p.root, .int .i64 q.p.next, .int .i64 q.p.size, .int .i64 q.p.idle] 49)) 9 _ (.slice (some ad) _ _) gs) := HH.out.below (below_allocR _)
      go_upto_region 13 with fail
      clear e0 e1 e2 e3 e4 e5 e6 e7 e8 HH HY HB
      generalize (wr.alloc (.cells #[.int .i64 q.n, .int .i64 q.p.kind, .slice q.ka q.kn q.kc, .slice q.va q.vn q.vc, .slice q.da q.dn q.dc, .int .i64 q.p.root, .int .i64 q.p.next, .int .i64 q.p.size, .int .i64 q.p.idle] 49)) = y0 at *
      obtain ⟨b, hbb⟩ : ∃ b, wr.heap.size = b := ⟨_, rfl⟩
      rw [hbb] at HQ ⊢
      clear hbb
      rcases (show k = 0 ∨ ∃ m, k = m + 1 from by cases k; exact .inl rfl; exact .inr ⟨_, rfl⟩) with hk0 | ⟨m, hm⟩
      · have hk1 : ¬ 0 < k := by omega
        have hk2 : ¬ (0 : Int) < (k : Int) := by omega
        have hk5 : decide ((0 : Int) < (k : Int)) = false := decide_eq_false hk2
        clear HR2 HH' hk0
        obtain ⟨hn0, hn1⟩ := (chg_parts HR1.out).1
        have hn2 : ¬ q.n < 0 := by omega
        have hn3 : ¬ 65535 < q.n := by omega
        have HPR : Hid (rightPg q.p = true) := (chg_parts HR1.out).2
        refine wp_region_ext (by kernel_rfl) ?_
        haveI nA := cls_ext y0.drew
        have u0 := cellX (W0 := y0.drew) (show y0.drew.cell? ⟨b, 0, none⟩ = some (.int .i64 q.n) from (Blk.of HQ.out ((Below.drew (Below.refl _ y0)).block _ HQ.out.lt)).cell 0)
        have u1 := cellX (W0 := y0.drew) (show y0.drew.cell? ⟨b, 1, none⟩ = some (.int .i64 q.p.kind) from (Blk.of HQ.out ((Below.drew (Below.refl _ y0)).block _ HQ.out.lt)).cell 1)
        have u2 := cellX (W0 := y0.drew) (show y0.drew.cell? ⟨b, 2, none⟩ = some (.slice q.ka q.kn q.kc) from (Blk.of HQ.out ((Below.drew (Below.refl _ y0)).block _ HQ.out.lt)).cell 2)
        have u3 := cellX (W0 := y0.drew) (show y0.drew.cell? ⟨b, 3, none⟩ = some (.slice q.va q.vn q.vc) from (Blk.of HQ.out ((Below.drew (Below.refl _ y0)).block _ HQ.out.lt)).cell 3)
        have u4 := cellX (W0 := y0.drew) (show y0.drew.cell? ⟨b, 4, none⟩ = some (.slice q.da q.dn q.dc) from (Blk.of HQ.out ((Below.drew (Below.refl _ y0)).block _ HQ.out.lt)).cell 4)
        have u5 := cellX (W0 := y0.drew) (show y0.drew.cell? ⟨b, 5, none⟩ = some (.int .i64 q.p.root) from (Blk.of HQ.out ((Below.drew (Below.refl _ y0)).block _ HQ.out.lt)).cell 5)
        have u6 := cellX (W0 := y0.drew) (show y0.drew.cell? ⟨b, 6, none⟩ = some (.int .i64 q.p.next) from (Blk.of HQ.out ((Below.drew (Below.refl _ y0)).block _ HQ.out.lt)).cell 6)
        have u7 := cellX (W0 := y0.drew) (show y0.drew.cell? ⟨b, 7, none⟩ = some (.int .i64 q.p.size) from (Blk.of HQ.out ((Below.drew (Below.refl _ y0)).block _ HQ.out.lt)).cell 7)
        have u8 := cellX (W0 := y0.drew) (show y0.drew.cell? ⟨b, 8, none⟩ = some (.int .i64 q.p.idle) from (Blk.of HQ.out ((Below.drew (Below.refl _ y0)).block _ HQ.out.lt)).cell 8)
        have HYr : Hid (Below y0.heap.size y0 y0.drew) := Below.drew (Below.refl _ _)
        refine wpAnyH_seg (by kernel_rfl) (fun _ _ _ h => h) [0, 1, 2, 3, 4, 5, 6, 7, 8, 9, 10] 19 _ _ _ (Ext.refl _) (by kernel_rfl) ?_
        simp only [opsAt, List.getElem?_toArray, List.getElem?_cons_zero, List.getElem?_cons_succ, List.cons_append, List.nil_append]
        repeat (go_big_quiet_step (fail))
        refine wpQuiet_nil ?_
        clear nA u0 u1 u2 u3 u4 u5 u6 u7 u8
        refine wpAnyH_callE (i := 11) (fuel := 18) 171 rfl (by kernel_rfl) rfl (Ext.refl _) (by kernel_rfl) (f := 25) (args := #[.agg #[.int .i64 q.p.kind, .slice q.ka q.kn q.kc, .slice q.va q.vn q.vc, .slice q.da q.dn q.dc, .int .i64 q.p.root, .int .i64 q.p.next, .int .i64 q.p.size, .int .i64 q.p.idle]]) (by kernel_rfl) (page_ok q.p _ _ _ y0.drew (((HQA.out.below HY'.out).below HYr.out).rd) HQA.out.ok HPR.out) ?_
        rintro e x1 ⟨rfl, y⟩
        refine ⟨_, rfl, y, ?_⟩
        have HYr' : Hid (Below y0.heap.size y0 x1) := ext_trans HYr.out y
        clear HYr y
        have HYr := HYr'
        clear HYr'
        simp only [Act.put, List.setIfInBounds_toArray, List.set_cons_succ, List.set_cons_zero]
        haveI nA := cls_ext x1
        have u0 := cellX (W0 := x1) (show x1.cell? ⟨b, 0, none⟩ = some (.int .i64 q.n) from (Blk.of HQ.out (HYr.out.block _ HQ.out.lt)).cell 0)
        have u1 := cellX (W0 := x1) (show x1.cell? ⟨b, 1, none⟩ = some (.int .i64 q.p.kind) from (Blk.of HQ.out (HYr.out.block _ HQ.out.lt)).cell 1)
        have u2 := cellX (W0 := x1) (show x1.cell? ⟨b, 2, none⟩ = some (.slice q.ka q.kn q.kc) from (Blk.of HQ.out (HYr.out.block _ HQ.out.lt)).cell 2)
        have u3 := cellX (W0 := x1) (show x1.cell? ⟨b, 3, none⟩ = some (.slice q.va q.vn q.vc) from (Blk.of HQ.out (HYr.out.block _ HQ.out.lt)).cell 3)
        have u4 := cellX (W0 := x1) (show x1.cell? ⟨b, 4, none⟩ = some (.slice q.da q.dn q.dc) from (Blk.of HQ.out (HYr.out.block _ HQ.out.lt)).cell 4)
        have u5 := cellX (W0 := x1) (show x1.cell? ⟨b, 5, none⟩ = some (.int .i64 q.p.root) from (Blk.of HQ.out (HYr.out.block _ HQ.out.lt)).cell 5)
        have u6 := cellX (W0 := x1) (show x1.cell? ⟨b, 6, none⟩ = some (.int .i64 q.p.next) from (Blk.of HQ.out (HYr.out.block _ HQ.out.lt)).cell 6)
        have u7 := cellX (W0 := x1) (show x1.cell? ⟨b, 7, none⟩ = some (.int .i64 q.p.size) from (Blk.of HQ.out (HYr.out.block _ HQ.out.lt)).cell 7)
        have u8 := cellX (W0 := x1) (show x1.cell? ⟨b, 8, none⟩ = some (.int .i64 q.p.idle) from (Blk.of HQ.out (HYr.out.block _ HQ.out.lt)).cell 8)
        refine wpAnyH_seg (by kernel_rfl) (fun _ _ _ h => h) [12, 13, 14, 15, 16, 17, 18, 19, 20, 21, 22, 23, 24, 25, 26, 27, 28, 29] 0 _ _ _ (Ext.refl _) (by kernel_rfl) ?_
        simp only [opsAt, List.getElem?_toArray, List.getElem?_cons_zero, List.getElem?_cons_succ, List.cons_append, List.nil_append]
        repeat (go_big_quiet_step (fail))
        refine wpQuiet_nil ?_
        clear nA u0 u1 u2 u3 u4 u5 u6 u7 u8
        refine wpAnyH_done (by kernel_rfl) (NoPanic.normal ?_) 0
        have HYZ : Hid (Below w.heap.size w x1) := ext_trans HY'.out HYr.out
        have HBZ : Hid (Blk x1 w.heap.size #[.int .i64 2, .int .u64 num, .int .i64 node, .string (⟨#[]⟩ : ByteArray), .bool false, .string (⟨#[]⟩ : ByteArray), .int .u64 prev, .slice na 0 nc, .slice ra 0 rc, .slice (some ad) gn gc, .slice oa 0 oc, .slice da 0 dc] 31) := Blk.of HB'.out (HYr.out.block _ HB'.out.lt)
        go_wp2
        go_roundw
        case rel => exact ⟨k + 1, by go_num, by omega, HYZ.out, HBZ.out⟩
        case measure => simp [intOf]; omega
      · have hml : m < gs.length := by omega
        have HA2 : Hid (_ = true) := HR2.out m hml hm
        have hk1 : 0 < k := by omega
        have hk2 : (0 : Int) < (k : Int) := by omega
        have hk5 : decide ((0 : Int) < (k : Int)) = true := decide_eq_true hk2
        have hk3 : (k : Int) - 1 = (m : Int) := by omega
        have hk4 : m < gn := by omega
        have HM0 : Hid (∀ W, Below y0.heap.size y0 W → W.cell? (ad.add (m * 9)) = some (.int .i64 gs[m].n)) := fun W hW => (HH'.out.below hW).at0 hml rfl
        clear HH'
        obtain ⟨hn0, hn1⟩ := (chg_parts HR1.out).1
        have hn2 : ¬ q.n < 0 := by omega
        have hn3 : ¬ 65535 < q.n := by omega
        have HPR : Hid (rightPg q.p = true) := (chg_parts HR1.out).2
        have hn4 : (gs[m]).n < q.n := by have h := HA2.out; unfold chgLt ltI at h; exact of_decide_eq_true h
        have hn5 : ¬ q.n ≤ (gs[m]).n := by omega
        generalize gs[m] = m0 at *
        clear HR2 hm hml
        refine wp_region_ext (by kernel_rfl) ?_
        haveI nA := cls_ext y0.drew
        have u0 := cellX (W0 := y0.drew) (show y0.drew.cell? ⟨b, 0, none⟩ = some (.int .i64 q.n) from (Blk.of HQ.out ((Below.drew (Below.refl _ y0)).block _ HQ.out.lt)).cell 0)
        have u1 := cellX (W0 := y0.drew) (show y0.drew.cell? ⟨b, 1, none⟩ = some (.int .i64 q.p.kind) from (Blk.of HQ.out ((Below.drew (Below.refl _ y0)).block _ HQ.out.lt)).cell 1)
        have u2 := cellX (W0 := y0.drew) (show y0.drew.cell? ⟨b, 2, none⟩ = some (.slice q.ka q.kn q.kc) from (Blk.of HQ.out ((Below.drew (Below.refl _ y0)).block _ HQ.out.lt)).cell 2)
        have u3 := cellX (W0 := y0.drew) (show y0.drew.cell? ⟨b, 3, none⟩ = some (.slice q.va q.vn q.vc) from (Blk.of HQ.out ((Below.drew (Below.refl _ y0)).block _ HQ.out.lt)).cell 3)
        have u4 := cellX (W0 := y0.drew) (show y0.drew.cell? ⟨b, 4, none⟩ = some (.slice q.da q.dn q.dc) from (Blk.of HQ.out ((Below.drew (Below.refl _ y0)).block _ HQ.out.lt)).cell 4)
        have u5 := cellX (W0 := y0.drew) (show y0.drew.cell? ⟨b, 5, none⟩ = some (.int .i64 q.p.root) from (Blk.of HQ.out ((Below.drew (Below.refl _ y0)).block _ HQ.out.lt)).cell 5)
        have u6 := cellX (W0 := y0.drew) (show y0.drew.cell? ⟨b, 6, none⟩ = some (.int .i64 q.p.next) from (Blk.of HQ.out ((Below.drew (Below.refl _ y0)).block _ HQ.out.lt)).cell 6)
        have u7 := cellX (W0 := y0.drew) (show y0.drew.cell? ⟨b, 7, none⟩ = some (.int .i64 q.p.size) from (Blk.of HQ.out ((Below.drew (Below.refl _ y0)).block _ HQ.out.lt)).cell 7)
        have u8 := cellX (W0 := y0.drew) (show y0.drew.cell? ⟨b, 8, none⟩ = some (.int .i64 q.p.idle) from (Blk.of HQ.out ((Below.drew (Below.refl _ y0)).block _ HQ.out.lt)).cell 8)
        have p9 := cellX (W0 := y0.drew) (show y0.drew.cell? ⟨w.heap.size, 9, none⟩ = some (.slice (some ad) gn gc) from (Blk.of HB'.out ((Below.drew (Below.refl _ y0)).block _ HB'.out.lt)).cell 9)
        have m9 := cellX (W0 := y0.drew) (HM0.out _ (Below.drew (Below.refl _ y0)))
        have HYr : Hid (Below y0.heap.size y0 y0.drew) := Below.drew (Below.refl _ _)
        refine wpAnyH_seg (by kernel_rfl) (fun _ _ _ h => h) [0, 1, 2, 3, 4, 5, 6, 7, 8, 9, 10] 19 _ _ _ (Ext.refl _) (by kernel_rfl) ?_
        simp only [opsAt, List.getElem?_toArray, List.getElem?_cons_zero, List.getElem?_cons_succ, List.cons_append, List.nil_append]
        repeat (go_big_quiet_step (fail))
        refine wpQuiet_nil ?_
        clear nA u0 u1 u2 u3 u4 u5 u6 u7 u8 p9 m9
        refine wpAnyH_callE (i := 11) (fuel := 18) 171 rfl (by kernel_rfl) rfl (Ext.refl _) (by kernel_rfl) (f := 25) (args := #[.agg #[.int .i64 q.p.kind, .slice q.ka q.kn q.kc, .slice q.va q.vn q.vc, .slice q.da q.dn q.dc, .int .i64 q.p.root, .int .i64 q.p.next, .int .i64 q.p.size, .int .i64 q.p.idle]]) (by kernel_rfl) (page_ok q.p _ _ _ y0.drew (((HQA.out.below HY'.out).below HYr.out).rd) HQA.out.ok HPR.out) ?_
        rintro e x1 ⟨rfl, y⟩
        refine ⟨_, rfl, y, ?_⟩
        have HYr' : Hid (Below y0.heap.size y0 x1) := ext_trans HYr.out y
        clear HYr y
        have HYr := HYr'
        clear HYr'
        simp only [Act.put, List.setIfInBounds_toArray, List.set_cons_succ, List.set_cons_zero]
        haveI nA := cls_ext x1
        have u0 := cellX (W0 := x1) (show x1.cell? ⟨b, 0, none⟩ = some (.int .i64 q.n) from (Blk.of HQ.out (HYr.out.block _ HQ.out.lt)).cell 0)
        have u1 := cellX (W0 := x1) (show x1.cell? ⟨b, 1, none⟩ = some (.int .i64 q.p.kind) from (Blk.of HQ.out (HYr.out.block _ HQ.out.lt)).cell 1)
        have u2 := cellX (W0 := x1) (show x1.cell? ⟨b, 2, none⟩ = some (.slice q.ka q.kn q.kc) from (Blk.of HQ.out (HYr.out.block _ HQ.out.lt)).cell 2)
        have u3 := cellX (W0 := x1) (show x1.cell? ⟨b, 3, none⟩ = some (.slice q.va q.vn q.vc) from (Blk.of HQ.out (HYr.out.block _ HQ.out.lt)).cell 3)
        have u4 := cellX (W0 := x1) (show x1.cell? ⟨b, 4, none⟩ = some (.slice q.da q.dn q.dc) from (Blk.of HQ.out (HYr.out.block _ HQ.out.lt)).cell 4)
        have u5 := cellX (W0 := x1) (show x1.cell? ⟨b, 5, none⟩ = some (.int .i64 q.p.root) from (Blk.of HQ.out (HYr.out.block _ HQ.out.lt)).cell 5)
        have u6 := cellX (W0 := x1) (show x1.cell? ⟨b, 6, none⟩ = some (.int .i64 q.p.next) from (Blk.of HQ.out (HYr.out.block _ HQ.out.lt)).cell 6)
        have u7 := cellX (W0 := x1) (show x1.cell? ⟨b, 7, none⟩ = some (.int .i64 q.p.size) from (Blk.of HQ.out (HYr.out.block _ HQ.out.lt)).cell 7)
        have u8 := cellX (W0 := x1) (show x1.cell? ⟨b, 8, none⟩ = some (.int .i64 q.p.idle) from (Blk.of HQ.out (HYr.out.block _ HQ.out.lt)).cell 8)
        have p9 := cellX (W0 := x1) (show x1.cell? ⟨w.heap.size, 9, none⟩ = some (.slice (some ad) gn gc) from (Blk.of HB'.out (HYr.out.block _ HB'.out.lt)).cell 9)
        have m9 := cellX (W0 := x1) (HM0.out _ HYr.out)
        refine wpAnyH_seg (by kernel_rfl) (fun _ _ _ h => h) [12, 13, 14, 15, 16, 17, 18, 19, 20, 21, 22, 23, 24, 25, 26, 27, 28, 29] 0 _ _ _ (Ext.refl _) (by kernel_rfl) ?_
        simp only [opsAt, List.getElem?_toArray, List.getElem?_cons_zero, List.getElem?_cons_succ, List.cons_append, List.nil_append]
        repeat (go_big_quiet_step (fail))
        refine wpQuiet_nil ?_
        clear nA u0 u1 u2 u3 u4 u5 u6 u7 u8 p9 m9
        refine wpAnyH_done (by kernel_rfl) (NoPanic.normal ?_) 0
        have HYZ : Hid (Below w.heap.size w x1) := ext_trans HY'.out HYr.out
        have HBZ : Hid (Blk x1 w.heap.size #[.int .i64 2, .int .u64 num, .int .i64 node, .string (⟨#[]⟩ : ByteArray), .bool false, .string (⟨#[]⟩ : ByteArray), .int .u64 prev, .slice na 0 nc, .slice ra 0 rc, .slice (some ad) gn gc, .slice oa 0 oc, .slice da 0 dc] 31) := Blk.of HB'.out (HYr.out.block _ HB'.out.lt)
        go_wp2
        go_roundw
        case rel => exact ⟨k + 1, by go_num, by omega, HYZ.out, HBZ.out⟩
        case measure => simp [intOf]; omega
    · clear hk
      rename World => wa
      have z0 : wa.cell? ⟨w.heap.size, 0, none⟩ = some (.int .i64 2) := HB.out.cell 0
      have z1 : wa.cell? ⟨w.heap.size, 1, none⟩ = some (.int .u64 num) := HB.out.cell 1
      have z2 : wa.cell? ⟨w.heap.size, 2, none⟩ = some (.int .i64 node) := HB.out.cell 2
      have z3 : wa.cell? ⟨w.heap.size, 3, none⟩ = some (.string (⟨#[]⟩ : ByteArray)) := HB.out.cell 3
      have z4 : wa.cell? ⟨w.heap.size, 4, none⟩ = some (.bool false) := HB.out.cell 4
      have z5 : wa.cell? ⟨w.heap.size, 5, none⟩ = some (.string (⟨#[]⟩ : ByteArray)) := HB.out.cell 5
      have z6 : wa.cell? ⟨w.heap.size, 6, none⟩ = some (.int .u64 prev) := HB.out.cell 6
      have z7 : wa.cell? ⟨w.heap.size, 7, none⟩ = some (.slice na 0 nc) := HB.out.cell 7
      have z8 : wa.cell? ⟨w.heap.size, 8, none⟩ = some (.slice ra 0 rc) := HB.out.cell 8
      have z9 : wa.cell? ⟨w.heap.size, 9, none⟩ = some (.slice ga gn gc) := HB.out.cell 9
      have z10 : wa.cell? ⟨w.heap.size, 10, none⟩ = some (.slice oa 0 oc) := HB.out.cell 10
      have z11 : wa.cell? ⟨w.heap.size, 11, none⟩ = some (.slice da 0 dc) := HB.out.cell 11
      go_wp2
      clear z0 z1 z2 z3 z4 z5 z6 z7 z8 z9 z10 z11
      go_loopw [194] (fun i wr => i = .int .i64 0 ∧ Below w.heap.size w wr ∧ Blk wr w.heap.size #[.int .i64 2, .int .u64 num, .int .i64 node, .string (⟨#[]⟩ : ByteArray), .bool false, .string (⟨#[]⟩ : ByteArray), .int .u64 prev, .slice na 0 nc, .slice ra 0 rc, .slice ga gn gc, .slice oa 0 oc, .slice da 0 dc] 31) (fun _ _ => 0)
      case atStart => exact ⟨rfl, HY.out, HB.out⟩
      case round =>
        obtain ⟨rfl, hy, hb⟩ := hrel
        clear HY HB
        have HY : Hid (Below w.heap.size w wr) := hy
        have HB : Hid (Blk wr w.heap.size #[.int .i64 2, .int .u64 num, .int .i64 node, .string (⟨#[]⟩ : ByteArray), .bool false, .string (⟨#[]⟩ : ByteArray), .int .u64 prev, .slice na 0 nc, .slice ra 0 rc, .slice ga gn gc, .slice oa 0 oc, .slice da 0 dc] 31) := hb
        clear hy hb
        rename World => wb
        have z0 : wb.cell? ⟨w.heap.size, 0, none⟩ = some (.int .i64 2) := HB.out.cell 0
        have z1 : wb.cell? ⟨w.heap.size, 1, none⟩ = some (.int .u64 num) := HB.out.cell 1
        have z2 : wb.cell? ⟨w.heap.size, 2, none⟩ = some (.int .i64 node) := HB.out.cell 2
        have z3 : wb.cell? ⟨w.heap.size, 3, none⟩ = some (.string (⟨#[]⟩ : ByteArray)) := HB.out.cell 3
        have z4 : wb.cell? ⟨w.heap.size, 4, none⟩ = some (.bool false) := HB.out.cell 4
        have z5 : wb.cell? ⟨w.heap.size, 5, none⟩ = some (.string (⟨#[]⟩ : ByteArray)) := HB.out.cell 5
        have z6 : wb.cell? ⟨w.heap.size, 6, none⟩ = some (.int .u64 prev) := HB.out.cell 6
        have z7 : wb.cell? ⟨w.heap.size, 7, none⟩ = some (.slice na 0 nc) := HB.out.cell 7
        have z8 : wb.cell? ⟨w.heap.size, 8, none⟩ = some (.slice ra 0 rc) := HB.out.cell 8
        have z9 : wb.cell? ⟨w.heap.size, 9, none⟩ = some (.slice ga gn gc) := HB.out.cell 9
        have z10 : wb.cell? ⟨w.heap.size, 10, none⟩ = some (.slice oa 0 oc) := HB.out.cell 10
        have z11 : wb.cell? ⟨w.heap.size, 11, none⟩ = some (.slice da 0 dc) := HB.out.cell 11
        go_wp2
        clear z0 z1 z2 z3 z4 z5 z6 z7 z8 z9 z10 z11
        go_loopw [250] (fun i wr => i = .int .i64 0 ∧ Below w.heap.size w wr ∧ Blk wr w.heap.size #[.int .i64 2, .int .u64 num, .int .i64 node, .string (⟨#[]⟩ : ByteArray), .bool false, .string (⟨#[]⟩ : ByteArray), .int .u64 prev, .slice na 0 nc, .slice ra 0 rc, .slice ga gn gc, .slice oa 0 oc, .slice da 0 dc] 31) (fun _ _ => 0)
        case atStart => exact ⟨rfl, HY.out, HB.out⟩
        case round =>
          obtain ⟨rfl, hy, hb⟩ := hrel
          clear HY HB
          have HY : Hid (Below w.heap.size w wr) := hy
          have HB : Hid (Blk wr w.heap.size #[.int .i64 2, .int .u64 num, .int .i64 node, .string (⟨#[]⟩ : ByteArray), .bool false, .string (⟨#[]⟩ : ByteArray), .int .u64 prev, .slice na 0 nc, .slice ra 0 rc, .slice ga gn gc, .slice oa 0 oc, .slice da 0 dc] 31) := hb
          clear hy hb
          rename World => wc
          go_wp2
          go_ret
          exact ⟨rfl, HY.out⟩

set_option maxRecDepth 100000 in
set_option maxHeartbeats 8000000 in
theorem right11_3 (num : Int) (node : Int) (na : Option Addr) (nc : Nat) (ra : Option Addr) (rn : Nat) (rc : Nat) (ga : Option Addr) (gc : Nat) (oa : Option Addr) (oc : Nat) (da : Option Addr) (dc : Nat) (ns : List Int) (rs : List ByteArray) (gs : List ChgV) (os : List OpenV) (ds : List DoneV) (w : World) (htid : tidOk num node = true) (hns : Rd w (.slice na 0 nc) (iv ns)) (hnk : nodesOk ns = true) (hrs : Rd w (.slice ra rn rc) (sv rs)) (hrk : readsOk rs = true) :
    Calls Tryz.prog 10 #[.agg #[.int .i64 3, .int .u64 num, .int .i64 node, .string (⟨#[]⟩ : ByteArray), .bool false, .string (⟨#[]⟩ : ByteArray), .int .u64 0, .slice na 0 nc, .slice ra rn rc, .slice ga 0 gc, .slice oa 0 oc, .slice da 0 dc]] w (OkP w) := by
  have HNS : Hid (Rd w (.slice na 0 nc) (iv ns) ∧ nodesOk ns = true) := ⟨hns, hnk⟩
  have HRS : Hid (Rd w (.slice ra rn rc) (sv rs) ∧ readsOk rs = true) := ⟨hrs, hrk⟩
  have HTI : Hid (tidOk num node = true) := htid
  clear htid hns hnk hrs hrk
  have HB : Hid (Blk (w.alloc (.cells #[.int .i64 3, .int .u64 num, .int .i64 node, .string (⟨#[]⟩ : ByteArray), .bool false, .string (⟨#[]⟩ : ByteArray), .int .u64 0, .slice na 0 nc, .slice ra rn rc, .slice ga 0 gc, .slice oa 0 oc, .slice da 0 dc] 31)) w.heap.size #[.int .i64 3, .int .u64 num, .int .i64 node, .string (⟨#[]⟩ : ByteArray), .bool false, .string (⟨#[]⟩ : ByteArray), .int .u64 0, .slice na 0 nc, .slice ra rn rc, .slice ga 0 gc, .slice oa 0 oc, .slice da 0 dc] 31) := Blk.new _ _ _
  have HY : Hid (Below w.heap.size w (w.alloc (.cells #[.int .i64 3, .int .u64 num, .int .i64 node, .string (⟨#[]⟩ : ByteArray), .bool false, .string (⟨#[]⟩ : ByteArray), .int .u64 0, .slice na 0 nc, .slice ra rn rc, .slice ga 0 gc, .slice oa 0 oc, .slice da 0 dc] 31))) := (Below.refl _ _).alloc (Nat.le_refl _) _
  go_enter Tryz.func10, Tryz.ntmps10
  go_upto_region 1 with fail
  generalize (w.alloc (.cells #[.int .i64 3, .int .u64 num, .int .i64 node, .string (⟨#[]⟩ : ByteArray), .bool false, .string (⟨#[]⟩ : ByteArray), .int .u64 0, .slice na 0 nc, .slice ra rn rc, .slice ga 0 gc, .slice oa 0 oc, .slice da 0 dc] 31)) = w0 at *
  have z0 : w0.cell? ⟨w.heap.size, 0, none⟩ = some (.int .i64 3) := HB.out.cell 0
  have z1 : w0.cell? ⟨w.heap.size, 1, none⟩ = some (.int .u64 num) := HB.out.cell 1
  have z2 : w0.cell? ⟨w.heap.size, 2, none⟩ = some (.int .i64 node) := HB.out.cell 2
  have z3 : w0.cell? ⟨w.heap.size, 3, none⟩ = some (.string (⟨#[]⟩ : ByteArray)) := HB.out.cell 3
  have z4 : w0.cell? ⟨w.heap.size, 4, none⟩ = some (.bool false) := HB.out.cell 4
  have z5 : w0.cell? ⟨w.heap.size, 5, none⟩ = some (.string (⟨#[]⟩ : ByteArray)) := HB.out.cell 5
  have z6 : w0.cell? ⟨w.heap.size, 6, none⟩ = some (.int .u64 0) := HB.out.cell 6
  have z7 : w0.cell? ⟨w.heap.size, 7, none⟩ = some (.slice na 0 nc) := HB.out.cell 7
  have z8 : w0.cell? ⟨w.heap.size, 8, none⟩ = some (.slice ra rn rc) := HB.out.cell 8
  have z9 : w0.cell? ⟨w.heap.size, 9, none⟩ = some (.slice ga 0 gc) := HB.out.cell 9
  have z10 : w0.cell? ⟨w.heap.size, 10, none⟩ = some (.slice oa 0 oc) := HB.out.cell 10
  have z11 : w0.cell? ⟨w.heap.size, 11, none⟩ = some (.slice da 0 dc) := HB.out.cell 11
  go_wp2_with fail
  refine (tid_ok num node w0 HTI.out).mono ?_
  rintro e w1 ⟨rfl, y⟩
  have HB' : Hid (Blk w1 w.heap.size #[.int .i64 3, .int .u64 num, .int .i64 node, .string (⟨#[]⟩ : ByteArray), .bool false, .string (⟨#[]⟩ : ByteArray), .int .u64 0, .slice na 0 nc, .slice ra rn rc, .slice ga 0 gc, .slice oa 0 oc, .slice da 0 dc] 31) := Blk.of HB.out (y.block _ HB.out.lt)
  have HY' : Hid (Below w.heap.size w w1) := ext_trans HY.out y
  clear HB HY y
  clear z0 z1 z2 z3 z4 z5 z6 z7 z8 z9 z10 z11
  have HB := HB'
  have HY := HY'
  clear HB' HY'
  have z0 : w1.cell? ⟨w.heap.size, 0, none⟩ = some (.int .i64 3) := HB.out.cell 0
  have z1 : w1.cell? ⟨w.heap.size, 1, none⟩ = some (.int .u64 num) := HB.out.cell 1
  have z2 : w1.cell? ⟨w.heap.size, 2, none⟩ = some (.int .i64 node) := HB.out.cell 2
  have z3 : w1.cell? ⟨w.heap.size, 3, none⟩ = some (.string (⟨#[]⟩ : ByteArray)) := HB.out.cell 3
  have z4 : w1.cell? ⟨w.heap.size, 4, none⟩ = some (.bool false) := HB.out.cell 4
  have z5 : w1.cell? ⟨w.heap.size, 5, none⟩ = some (.string (⟨#[]⟩ : ByteArray)) := HB.out.cell 5
  have z6 : w1.cell? ⟨w.heap.size, 6, none⟩ = some (.int .u64 0) := HB.out.cell 6
  have z7 : w1.cell? ⟨w.heap.size, 7, none⟩ = some (.slice na 0 nc) := HB.out.cell 7
  have z8 : w1.cell? ⟨w.heap.size, 8, none⟩ = some (.slice ra rn rc) := HB.out.cell 8
  have z9 : w1.cell? ⟨w.heap.size, 9, none⟩ = some (.slice ga 0 gc) := HB.out.cell 9
  have z10 : w1.cell? ⟨w.heap.size, 10, none⟩ = some (.slice oa 0 oc) := HB.out.cell 10
  have z11 : w1.cell? ⟨w.heap.size, 11, none⟩ = some (.slice da 0 dc) := HB.out.cell 11
  go_wp2_with fail
  refine (rising_ok _ ns w1 (HNS.out.1.below HY.out) HNS.out.2).mono ?_
  rintro e w2 ⟨rfl, y⟩
  have HB' : Hid (Blk w2 w.heap.size #[.int .i64 3, .int .u64 num, .int .i64 node, .string (⟨#[]⟩ : ByteArray), .bool false, .string (⟨#[]⟩ : ByteArray), .int .u64 0, .slice na 0 nc, .slice ra rn rc, .slice ga 0 gc, .slice oa 0 oc, .slice da 0 dc] 31) := Blk.of HB.out (y.block _ HB.out.lt)
  have HY' : Hid (Below w.heap.size w w2) := ext_trans HY.out y
  clear HB HY y
  clear z0 z1 z2 z3 z4 z5 z6 z7 z8 z9 z10 z11
  have HB := HB'
  have HY := HY'
  clear HB' HY'
  have z0 : w2.cell? ⟨w.heap.size, 0, none⟩ = some (.int .i64 3) := HB.out.cell 0
  have z1 : w2.cell? ⟨w.heap.size, 1, none⟩ = some (.int .u64 num) := HB.out.cell 1
  have z2 : w2.cell? ⟨w.heap.size, 2, none⟩ = some (.int .i64 node) := HB.out.cell 2
  have z3 : w2.cell? ⟨w.heap.size, 3, none⟩ = some (.string (⟨#[]⟩ : ByteArray)) := HB.out.cell 3
  have z4 : w2.cell? ⟨w.heap.size, 4, none⟩ = some (.bool false) := HB.out.cell 4
  have z5 : w2.cell? ⟨w.heap.size, 5, none⟩ = some (.string (⟨#[]⟩ : ByteArray)) := HB.out.cell 5
  have z6 : w2.cell? ⟨w.heap.size, 6, none⟩ = some (.int .u64 0) := HB.out.cell 6
  have z7 : w2.cell? ⟨w.heap.size, 7, none⟩ = some (.slice na 0 nc) := HB.out.cell 7
  have z8 : w2.cell? ⟨w.heap.size, 8, none⟩ = some (.slice ra rn rc) := HB.out.cell 8
  have z9 : w2.cell? ⟨w.heap.size, 9, none⟩ = some (.slice ga 0 gc) := HB.out.cell 9
  have z10 : w2.cell? ⟨w.heap.size, 10, none⟩ = some (.slice oa 0 oc) := HB.out.cell 10
  have z11 : w2.cell? ⟨w.heap.size, 11, none⟩ = some (.slice da 0 dc) := HB.out.cell 11
  go_wp2_with fail
  refine (keys_ok _ rs w2 (HRS.out.1.below HY.out) HRS.out.2).mono ?_
  rintro e w3 ⟨rfl, y⟩
  have HB' : Hid (Blk w3 w.heap.size #[.int .i64 3, .int .u64 num, .int .i64 node, .string (⟨#[]⟩ : ByteArray), .bool false, .string (⟨#[]⟩ : ByteArray), .int .u64 0, .slice na 0 nc, .slice ra rn rc, .slice ga 0 gc, .slice oa 0 oc, .slice da 0 dc] 31) := Blk.of HB.out (y.block _ HB.out.lt)
  have HY' : Hid (Below w.heap.size w w3) := ext_trans HY.out y
  clear HB HY y
  clear z0 z1 z2 z3 z4 z5 z6 z7 z8 z9 z10 z11
  have HB := HB'
  have HY := HY'
  clear HB' HY'
  have z0 : w3.cell? ⟨w.heap.size, 0, none⟩ = some (.int .i64 3) := HB.out.cell 0
  have z1 : w3.cell? ⟨w.heap.size, 1, none⟩ = some (.int .u64 num) := HB.out.cell 1
  have z2 : w3.cell? ⟨w.heap.size, 2, none⟩ = some (.int .i64 node) := HB.out.cell 2
  have z3 : w3.cell? ⟨w.heap.size, 3, none⟩ = some (.string (⟨#[]⟩ : ByteArray)) := HB.out.cell 3
  have z4 : w3.cell? ⟨w.heap.size, 4, none⟩ = some (.bool false) := HB.out.cell 4
  have z5 : w3.cell? ⟨w.heap.size, 5, none⟩ = some (.string (⟨#[]⟩ : ByteArray)) := HB.out.cell 5
  have z6 : w3.cell? ⟨w.heap.size, 6, none⟩ = some (.int .u64 0) := HB.out.cell 6
  have z7 : w3.cell? ⟨w.heap.size, 7, none⟩ = some (.slice na 0 nc) := HB.out.cell 7
  have z8 : w3.cell? ⟨w.heap.size, 8, none⟩ = some (.slice ra rn rc) := HB.out.cell 8
  have z9 : w3.cell? ⟨w.heap.size, 9, none⟩ = some (.slice ga 0 gc) := HB.out.cell 9
  have z10 : w3.cell? ⟨w.heap.size, 10, none⟩ = some (.slice oa 0 oc) := HB.out.cell 10
  have z11 : w3.cell? ⟨w.heap.size, 11, none⟩ = some (.slice da 0 dc) := HB.out.cell 11
  go_wp2
  clear z0 z1 z2 z3 z4 z5 z6 z7 z8 z9 z10 z11
  go_loopw [155] (fun i wr => i = .int .i64 0 ∧ Below w.heap.size w wr ∧ Blk wr w.heap.size #[.int .i64 3, .int .u64 num, .int .i64 node, .string (⟨#[]⟩ : ByteArray), .bool false, .string (⟨#[]⟩ : ByteArray), .int .u64 0, .slice na 0 nc, .slice ra rn rc, .slice ga 0 gc, .slice oa 0 oc, .slice da 0 dc] 31) (fun _ _ => 0)
  case atStart => exact ⟨rfl, HY.out, HB.out⟩
  case round =>
    obtain ⟨rfl, hy, hb⟩ := hrel
    clear HY HB
    have HY : Hid (Below w.heap.size w wr) := hy
    have HB : Hid (Blk wr w.heap.size #[.int .i64 3, .int .u64 num, .int .i64 node, .string (⟨#[]⟩ : ByteArray), .bool false, .string (⟨#[]⟩ : ByteArray), .int .u64 0, .slice na 0 nc, .slice ra rn rc, .slice ga 0 gc, .slice oa 0 oc, .slice da 0 dc] 31) := hb
    clear hy hb
    rename World => wa
    have z0 : wa.cell? ⟨w.heap.size, 0, none⟩ = some (.int .i64 3) := HB.out.cell 0
    have z1 : wa.cell? ⟨w.heap.size, 1, none⟩ = some (.int .u64 num) := HB.out.cell 1
    have z2 : wa.cell? ⟨w.heap.size, 2, none⟩ = some (.int .i64 node) := HB.out.cell 2
    have z3 : wa.cell? ⟨w.heap.size, 3, none⟩ = some (.string (⟨#[]⟩ : ByteArray)) := HB.out.cell 3
    have z4 : wa.cell? ⟨w.heap.size, 4, none⟩ = some (.bool false) := HB.out.cell 4
    have z5 : wa.cell? ⟨w.heap.size, 5, none⟩ = some (.string (⟨#[]⟩ : ByteArray)) := HB.out.cell 5
    have z6 : wa.cell? ⟨w.heap.size, 6, none⟩ = some (.int .u64 0) := HB.out.cell 6
    have z7 : wa.cell? ⟨w.heap.size, 7, none⟩ = some (.slice na 0 nc) := HB.out.cell 7
    have z8 : wa.cell? ⟨w.heap.size, 8, none⟩ = some (.slice ra rn rc) := HB.out.cell 8
    have z9 : wa.cell? ⟨w.heap.size, 9, none⟩ = some (.slice ga 0 gc) := HB.out.cell 9
    have z10 : wa.cell? ⟨w.heap.size, 10, none⟩ = some (.slice oa 0 oc) := HB.out.cell 10
    have z11 : wa.cell? ⟨w.heap.size, 11, none⟩ = some (.slice da 0 dc) := HB.out.cell 11
    go_wp2
    clear z0 z1 z2 z3 z4 z5 z6 z7 z8 z9 z10 z11
    go_loopw [194] (fun i wr => i = .int .i64 0 ∧ Below w.heap.size w wr ∧ Blk wr w.heap.size #[.int .i64 3, .int .u64 num, .int .i64 node, .string (⟨#[]⟩ : ByteArray), .bool false, .string (⟨#[]⟩ : ByteArray), .int .u64 0, .slice na 0 nc, .slice ra rn rc, .slice ga 0 gc, .slice oa 0 oc, .slice da 0 dc] 31) (fun _ _ => 0)
    case atStart => exact ⟨rfl, HY.out, HB.out⟩
    case round =>
      obtain ⟨rfl, hy, hb⟩ := hrel
      clear HY HB
      have HY : Hid (Below w.heap.size w wr) := hy
      have HB : Hid (Blk wr w.heap.size #[.int .i64 3, .int .u64 num, .int .i64 node, .string (⟨#[]⟩ : ByteArray), .bool false, .string (⟨#[]⟩ : ByteArray), .int .u64 0, .slice na 0 nc, .slice ra rn rc, .slice ga 0 gc, .slice oa 0 oc, .slice da 0 dc] 31) := hb
      clear hy hb
      rename World => wb
      have z0 : wb.cell? ⟨w.heap.size, 0, none⟩ = some (.int .i64 3) := HB.out.cell 0
      have z1 : wb.cell? ⟨w.heap.size, 1, none⟩ = some (.int .u64 num) := HB.out.cell 1
      have z2 : wb.cell? ⟨w.heap.size, 2, none⟩ = some (.int .i64 node) := HB.out.cell 2
      have z3 : wb.cell? ⟨w.heap.size, 3, none⟩ = some (.string (⟨#[]⟩ : ByteArray)) := HB.out.cell 3
      have z4 : wb.cell? ⟨w.heap.size, 4, none⟩ = some (.bool false) := HB.out.cell 4
      have z5 : wb.cell? ⟨w.heap.size, 5, none⟩ = some (.string (⟨#[]⟩ : ByteArray)) := HB.out.cell 5
      have z6 : wb.cell? ⟨w.heap.size, 6, none⟩ = some (.int .u64 0) := HB.out.cell 6
      have z7 : wb.cell? ⟨w.heap.size, 7, none⟩ = some (.slice na 0 nc) := HB.out.cell 7
      have z8 : wb.cell? ⟨w.heap.size, 8, none⟩ = some (.slice ra rn rc) := HB.out.cell 8
      have z9 : wb.cell? ⟨w.heap.size, 9, none⟩ = some (.slice ga 0 gc) := HB.out.cell 9
      have z10 : wb.cell? ⟨w.heap.size, 10, none⟩ = some (.slice oa 0 oc) := HB.out.cell 10
      have z11 : wb.cell? ⟨w.heap.size, 11, none⟩ = some (.slice da 0 dc) := HB.out.cell 11
      go_wp2
      clear z0 z1 z2 z3 z4 z5 z6 z7 z8 z9 z10 z11
      go_loopw [250] (fun i wr => i = .int .i64 0 ∧ Below w.heap.size w wr ∧ Blk wr w.heap.size #[.int .i64 3, .int .u64 num, .int .i64 node, .string (⟨#[]⟩ : ByteArray), .bool false, .string (⟨#[]⟩ : ByteArray), .int .u64 0, .slice na 0 nc, .slice ra rn rc, .slice ga 0 gc, .slice oa 0 oc, .slice da 0 dc] 31) (fun _ _ => 0)
      case atStart => exact ⟨rfl, HY.out, HB.out⟩
      case round =>
        obtain ⟨rfl, hy, hb⟩ := hrel
        clear HY HB
        have HY : Hid (Below w.heap.size w wr) := hy
        have HB : Hid (Blk wr w.heap.size #[.int .i64 3, .int .u64 num, .int .i64 node, .string (⟨#[]⟩ : ByteArray), .bool false, .string (⟨#[]⟩ : ByteArray), .int .u64 0, .slice na 0 nc, .slice ra rn rc, .slice ga 0 gc, .slice oa 0 oc, .slice da 0 dc] 31) := hb
        clear hy hb
        rename World => wc
        go_wp2
        go_ret
        exact ⟨rfl, HY.out⟩

set_option maxRecDepth 100000 in
set_option maxHeartbeats 8000000 in
theorem right11_4 (num : Int) (node : Int) (na : Option Addr) (nc : Nat) (ra : Option Addr) (rc : Nat) (ga : Option Addr) (gc : Nat) (oa : Option Addr) (oc : Nat) (da : Option Addr) (dc : Nat) (ns : List Int) (rs : List ByteArray) (gs : List ChgV) (os : List OpenV) (ds : List DoneV) (w : World) (htid : tidOk num node = true) (hns : Rd w (.slice na 0 nc) (iv ns)) (hnk : nodesOk ns = true) (hrs : Rd w (.slice ra 0 rc) (sv rs)) (hrk : readsOk rs = true) :
    Calls Tryz.prog 10 #[.agg #[.int .i64 4, .int .u64 num, .int .i64 node, .string (⟨#[]⟩ : ByteArray), .bool false, .string (⟨#[]⟩ : ByteArray), .int .u64 0, .slice na 0 nc, .slice ra 0 rc, .slice ga 0 gc, .slice oa 0 oc, .slice da 0 dc]] w (OkP w) := by
  have HNS : Hid (Rd w (.slice na 0 nc) (iv ns) ∧ nodesOk ns = true) := ⟨hns, hnk⟩
  have HRS : Hid (Rd w (.slice ra 0 rc) (sv rs) ∧ readsOk rs = true) := ⟨hrs, hrk⟩
  have HTI : Hid (tidOk num node = true) := htid
  clear htid hns hnk hrs hrk
  have HB : Hid (Blk (w.alloc (.cells #[.int .i64 4, .int .u64 num, .int .i64 node, .string (⟨#[]⟩ : ByteArray), .bool false, .string (⟨#[]⟩ : ByteArray), .int .u64 0, .slice na 0 nc, .slice ra 0 rc, .slice ga 0 gc, .slice oa 0 oc, .slice da 0 dc] 31)) w.heap.size #[.int .i64 4, .int .u64 num, .int .i64 node, .string (⟨#[]⟩ : ByteArray), .bool false, .string (⟨#[]⟩ : ByteArray), .int .u64 0, .slice na 0 nc, .slice ra 0 rc, .slice ga 0 gc, .slice oa 0 oc, .slice da 0 dc] 31) := Blk.new _ _ _
  have HY : Hid (Below w.heap.size w (w.alloc (.cells #[.int .i64 4, .int .u64 num, .int .i64 node, .string (⟨#[]⟩ : ByteArray), .bool false, .string (⟨#[]⟩ : ByteArray), .int .u64 0, .slice na 0 nc, .slice ra 0 rc, .slice ga 0 gc, .slice oa 0 oc, .slice da 0 dc] 31))) := (Below.refl _ _).alloc (Nat.le_refl _) _
  go_enter Tryz.func10, Tryz.ntmps10
  go_upto_region 1 with fail
  generalize (w.alloc (.cells #[.int .i64 4, .int .u64 num, .int .i64 node, .string (⟨#[]⟩ : ByteArray), .bool false, .string (⟨#[]⟩ : ByteArray), .int .u64 0, .slice na 0 nc, .slice ra 0 rc, .slice ga 0 gc, .slice oa 0 oc, .slice da 0 dc] 31)) = w0 at *
  have z0 : w0.cell? ⟨w.heap.size, 0, none⟩ = some (.int .i64 4) := HB.out.cell 0
  have z1 : w0.cell? ⟨w.heap.size, 1, none⟩ = some (.int .u64 num) := HB.out.cell 1
  have z2 : w0.cell? ⟨w.heap.size, 2, none⟩ = some (.int .i64 node) := HB.out.cell 2
  have z3 : w0.cell? ⟨w.heap.size, 3, none⟩ = some (.string (⟨#[]⟩ : ByteArray)) := HB.out.cell 3
  have z4 : w0.cell? ⟨w.heap.size, 4, none⟩ = some (.bool false) := HB.out.cell 4
  have z5 : w0.cell? ⟨w.heap.size, 5, none⟩ = some (.string (⟨#[]⟩ : ByteArray)) := HB.out.cell 5
  have z6 : w0.cell? ⟨w.heap.size, 6, none⟩ = some (.int .u64 0) := HB.out.cell 6
  have z7 : w0.cell? ⟨w.heap.size, 7, none⟩ = some (.slice na 0 nc) := HB.out.cell 7
  have z8 : w0.cell? ⟨w.heap.size, 8, none⟩ = some (.slice ra 0 rc) := HB.out.cell 8
  have z9 : w0.cell? ⟨w.heap.size, 9, none⟩ = some (.slice ga 0 gc) := HB.out.cell 9
  have z10 : w0.cell? ⟨w.heap.size, 10, none⟩ = some (.slice oa 0 oc) := HB.out.cell 10
  have z11 : w0.cell? ⟨w.heap.size, 11, none⟩ = some (.slice da 0 dc) := HB.out.cell 11
  go_wp2_with fail
  refine (tid_ok num node w0 HTI.out).mono ?_
  rintro e w1 ⟨rfl, y⟩
  have HB' : Hid (Blk w1 w.heap.size #[.int .i64 4, .int .u64 num, .int .i64 node, .string (⟨#[]⟩ : ByteArray), .bool false, .string (⟨#[]⟩ : ByteArray), .int .u64 0, .slice na 0 nc, .slice ra 0 rc, .slice ga 0 gc, .slice oa 0 oc, .slice da 0 dc] 31) := Blk.of HB.out (y.block _ HB.out.lt)
  have HY' : Hid (Below w.heap.size w w1) := ext_trans HY.out y
  clear HB HY y
  clear z0 z1 z2 z3 z4 z5 z6 z7 z8 z9 z10 z11
  have HB := HB'
  have HY := HY'
  clear HB' HY'
  have z0 : w1.cell? ⟨w.heap.size, 0, none⟩ = some (.int .i64 4) := HB.out.cell 0
  have z1 : w1.cell? ⟨w.heap.size, 1, none⟩ = some (.int .u64 num) := HB.out.cell 1
  have z2 : w1.cell? ⟨w.heap.size, 2, none⟩ = some (.int .i64 node) := HB.out.cell 2
  have z3 : w1.cell? ⟨w.heap.size, 3, none⟩ = some (.string (⟨#[]⟩ : ByteArray)) := HB.out.cell 3
  have z4 : w1.cell? ⟨w.heap.size, 4, none⟩ = some (.bool false) := HB.out.cell 4
  have z5 : w1.cell? ⟨w.heap.size, 5, none⟩ = some (.string (⟨#[]⟩ : ByteArray)) := HB.out.cell 5
  have z6 : w1.cell? ⟨w.heap.size, 6, none⟩ = some (.int .u64 0) := HB.out.cell 6
  have z7 : w1.cell? ⟨w.heap.size, 7, none⟩ = some (.slice na 0 nc) := HB.out.cell 7
  have z8 : w1.cell? ⟨w.heap.size, 8, none⟩ = some (.slice ra 0 rc) := HB.out.cell 8
  have z9 : w1.cell? ⟨w.heap.size, 9, none⟩ = some (.slice ga 0 gc) := HB.out.cell 9
  have z10 : w1.cell? ⟨w.heap.size, 10, none⟩ = some (.slice oa 0 oc) := HB.out.cell 10
  have z11 : w1.cell? ⟨w.heap.size, 11, none⟩ = some (.slice da 0 dc) := HB.out.cell 11
  go_wp2_with fail
  refine (rising_ok _ ns w1 (HNS.out.1.below HY.out) HNS.out.2).mono ?_
  rintro e w2 ⟨rfl, y⟩
  have HB' : Hid (Blk w2 w.heap.size #[.int .i64 4, .int .u64 num, .int .i64 node, .string (⟨#[]⟩ : ByteArray), .bool false, .string (⟨#[]⟩ : ByteArray), .int .u64 0, .slice na 0 nc, .slice ra 0 rc, .slice ga 0 gc, .slice oa 0 oc, .slice da 0 dc] 31) := Blk.of HB.out (y.block _ HB.out.lt)
  have HY' : Hid (Below w.heap.size w w2) := ext_trans HY.out y
  clear HB HY y
  clear z0 z1 z2 z3 z4 z5 z6 z7 z8 z9 z10 z11
  have HB := HB'
  have HY := HY'
  clear HB' HY'
  have z0 : w2.cell? ⟨w.heap.size, 0, none⟩ = some (.int .i64 4) := HB.out.cell 0
  have z1 : w2.cell? ⟨w.heap.size, 1, none⟩ = some (.int .u64 num) := HB.out.cell 1
  have z2 : w2.cell? ⟨w.heap.size, 2, none⟩ = some (.int .i64 node) := HB.out.cell 2
  have z3 : w2.cell? ⟨w.heap.size, 3, none⟩ = some (.string (⟨#[]⟩ : ByteArray)) := HB.out.cell 3
  have z4 : w2.cell? ⟨w.heap.size, 4, none⟩ = some (.bool false) := HB.out.cell 4
  have z5 : w2.cell? ⟨w.heap.size, 5, none⟩ = some (.string (⟨#[]⟩ : ByteArray)) := HB.out.cell 5
  have z6 : w2.cell? ⟨w.heap.size, 6, none⟩ = some (.int .u64 0) := HB.out.cell 6
  have z7 : w2.cell? ⟨w.heap.size, 7, none⟩ = some (.slice na 0 nc) := HB.out.cell 7
  have z8 : w2.cell? ⟨w.heap.size, 8, none⟩ = some (.slice ra 0 rc) := HB.out.cell 8
  have z9 : w2.cell? ⟨w.heap.size, 9, none⟩ = some (.slice ga 0 gc) := HB.out.cell 9
  have z10 : w2.cell? ⟨w.heap.size, 10, none⟩ = some (.slice oa 0 oc) := HB.out.cell 10
  have z11 : w2.cell? ⟨w.heap.size, 11, none⟩ = some (.slice da 0 dc) := HB.out.cell 11
  go_wp2_with fail
  refine (keys_ok _ rs w2 (HRS.out.1.below HY.out) HRS.out.2).mono ?_
  rintro e w3 ⟨rfl, y⟩
  have HB' : Hid (Blk w3 w.heap.size #[.int .i64 4, .int .u64 num, .int .i64 node, .string (⟨#[]⟩ : ByteArray), .bool false, .string (⟨#[]⟩ : ByteArray), .int .u64 0, .slice na 0 nc, .slice ra 0 rc, .slice ga 0 gc, .slice oa 0 oc, .slice da 0 dc] 31) := Blk.of HB.out (y.block _ HB.out.lt)
  have HY' : Hid (Below w.heap.size w w3) := ext_trans HY.out y
  clear HB HY y
  clear z0 z1 z2 z3 z4 z5 z6 z7 z8 z9 z10 z11
  have HB := HB'
  have HY := HY'
  clear HB' HY'
  have z0 : w3.cell? ⟨w.heap.size, 0, none⟩ = some (.int .i64 4) := HB.out.cell 0
  have z1 : w3.cell? ⟨w.heap.size, 1, none⟩ = some (.int .u64 num) := HB.out.cell 1
  have z2 : w3.cell? ⟨w.heap.size, 2, none⟩ = some (.int .i64 node) := HB.out.cell 2
  have z3 : w3.cell? ⟨w.heap.size, 3, none⟩ = some (.string (⟨#[]⟩ : ByteArray)) := HB.out.cell 3
  have z4 : w3.cell? ⟨w.heap.size, 4, none⟩ = some (.bool false) := HB.out.cell 4
  have z5 : w3.cell? ⟨w.heap.size, 5, none⟩ = some (.string (⟨#[]⟩ : ByteArray)) := HB.out.cell 5
  have z6 : w3.cell? ⟨w.heap.size, 6, none⟩ = some (.int .u64 0) := HB.out.cell 6
  have z7 : w3.cell? ⟨w.heap.size, 7, none⟩ = some (.slice na 0 nc) := HB.out.cell 7
  have z8 : w3.cell? ⟨w.heap.size, 8, none⟩ = some (.slice ra 0 rc) := HB.out.cell 8
  have z9 : w3.cell? ⟨w.heap.size, 9, none⟩ = some (.slice ga 0 gc) := HB.out.cell 9
  have z10 : w3.cell? ⟨w.heap.size, 10, none⟩ = some (.slice oa 0 oc) := HB.out.cell 10
  have z11 : w3.cell? ⟨w.heap.size, 11, none⟩ = some (.slice da 0 dc) := HB.out.cell 11
  go_wp2
  clear z0 z1 z2 z3 z4 z5 z6 z7 z8 z9 z10 z11
  go_loopw [155] (fun i wr => i = .int .i64 0 ∧ Below w.heap.size w wr ∧ Blk wr w.heap.size #[.int .i64 4, .int .u64 num, .int .i64 node, .string (⟨#[]⟩ : ByteArray), .bool false, .string (⟨#[]⟩ : ByteArray), .int .u64 0, .slice na 0 nc, .slice ra 0 rc, .slice ga 0 gc, .slice oa 0 oc, .slice da 0 dc] 31) (fun _ _ => 0)
  case atStart => exact ⟨rfl, HY.out, HB.out⟩
  case round =>
    obtain ⟨rfl, hy, hb⟩ := hrel
    clear HY HB
    have HY : Hid (Below w.heap.size w wr) := hy
    have HB : Hid (Blk wr w.heap.size #[.int .i64 4, .int .u64 num, .int .i64 node, .string (⟨#[]⟩ : ByteArray), .bool false, .string (⟨#[]⟩ : ByteArray), .int .u64 0, .slice na 0 nc, .slice ra 0 rc, .slice ga 0 gc, .slice oa 0 oc, .slice da 0 dc] 31) := hb
    clear hy hb
    rename World => wa
    have z0 : wa.cell? ⟨w.heap.size, 0, none⟩ = some (.int .i64 4) := HB.out.cell 0
    have z1 : wa.cell? ⟨w.heap.size, 1, none⟩ = some (.int .u64 num) := HB.out.cell 1
    have z2 : wa.cell? ⟨w.heap.size, 2, none⟩ = some (.int .i64 node) := HB.out.cell 2
    have z3 : wa.cell? ⟨w.heap.size, 3, none⟩ = some (.string (⟨#[]⟩ : ByteArray)) := HB.out.cell 3
    have z4 : wa.cell? ⟨w.heap.size, 4, none⟩ = some (.bool false) := HB.out.cell 4
    have z5 : wa.cell? ⟨w.heap.size, 5, none⟩ = some (.string (⟨#[]⟩ : ByteArray)) := HB.out.cell 5
    have z6 : wa.cell? ⟨w.heap.size, 6, none⟩ = some (.int .u64 0) := HB.out.cell 6
    have z7 : wa.cell? ⟨w.heap.size, 7, none⟩ = some (.slice na 0 nc) := HB.out.cell 7
    have z8 : wa.cell? ⟨w.heap.size, 8, none⟩ = some (.slice ra 0 rc) := HB.out.cell 8
    have z9 : wa.cell? ⟨w.heap.size, 9, none⟩ = some (.slice ga 0 gc) := HB.out.cell 9
    have z10 : wa.cell? ⟨w.heap.size, 10, none⟩ = some (.slice oa 0 oc) := HB.out.cell 10
    have z11 : wa.cell? ⟨w.heap.size, 11, none⟩ = some (.slice da 0 dc) := HB.out.cell 11
    go_wp2
    clear z0 z1 z2 z3 z4 z5 z6 z7 z8 z9 z10 z11
    go_loopw [194] (fun i wr => i = .int .i64 0 ∧ Below w.heap.size w wr ∧ Blk wr w.heap.size #[.int .i64 4, .int .u64 num, .int .i64 node, .string (⟨#[]⟩ : ByteArray), .bool false, .string (⟨#[]⟩ : ByteArray), .int .u64 0, .slice na 0 nc, .slice ra 0 rc, .slice ga 0 gc, .slice oa 0 oc, .slice da 0 dc] 31) (fun _ _ => 0)
    case atStart => exact ⟨rfl, HY.out, HB.out⟩
    case round =>
      obtain ⟨rfl, hy, hb⟩ := hrel
      clear HY HB
      have HY : Hid (Below w.heap.size w wr) := hy
      have HB : Hid (Blk wr w.heap.size #[.int .i64 4, .int .u64 num, .int .i64 node, .string (⟨#[]⟩ : ByteArray), .bool false, .string (⟨#[]⟩ : ByteArray), .int .u64 0, .slice na 0 nc, .slice ra 0 rc, .slice ga 0 gc, .slice oa 0 oc, .slice da 0 dc] 31) := hb
      clear hy hb
      rename World => wb
      have z0 : wb.cell? ⟨w.heap.size, 0, none⟩ = some (.int .i64 4) := HB.out.cell 0
      have z1 : wb.cell? ⟨w.heap.size, 1, none⟩ = some (.int .u64 num) := HB.out.cell 1
      have z2 : wb.cell? ⟨w.heap.size, 2, none⟩ = some (.int .i64 node) := HB.out.cell 2
      have z3 : wb.cell? ⟨w.heap.size, 3, none⟩ = some (.string (⟨#[]⟩ : ByteArray)) := HB.out.cell 3
      have z4 : wb.cell? ⟨w.heap.size, 4, none⟩ = some (.bool false) := HB.out.cell 4
      have z5 : wb.cell? ⟨w.heap.size, 5, none⟩ = some (.string (⟨#[]⟩ : ByteArray)) := HB.out.cell 5
      have z6 : wb.cell? ⟨w.heap.size, 6, none⟩ = some (.int .u64 0) := HB.out.cell 6
      have z7 : wb.cell? ⟨w.heap.size, 7, none⟩ = some (.slice na 0 nc) := HB.out.cell 7
      have z8 : wb.cell? ⟨w.heap.size, 8, none⟩ = some (.slice ra 0 rc) := HB.out.cell 8
      have z9 : wb.cell? ⟨w.heap.size, 9, none⟩ = some (.slice ga 0 gc) := HB.out.cell 9
      have z10 : wb.cell? ⟨w.heap.size, 10, none⟩ = some (.slice oa 0 oc) := HB.out.cell 10
      have z11 : wb.cell? ⟨w.heap.size, 11, none⟩ = some (.slice da 0 dc) := HB.out.cell 11
      go_wp2
      clear z0 z1 z2 z3 z4 z5 z6 z7 z8 z9 z10 z11
      go_loopw [250] (fun i wr => i = .int .i64 0 ∧ Below w.heap.size w wr ∧ Blk wr w.heap.size #[.int .i64 4, .int .u64 num, .int .i64 node, .string (⟨#[]⟩ : ByteArray), .bool false, .string (⟨#[]⟩ : ByteArray), .int .u64 0, .slice na 0 nc, .slice ra 0 rc, .slice ga 0 gc, .slice oa 0 oc, .slice da 0 dc] 31) (fun _ _ => 0)
      case atStart => exact ⟨rfl, HY.out, HB.out⟩
      case round =>
        obtain ⟨rfl, hy, hb⟩ := hrel
        clear HY HB
        have HY : Hid (Below w.heap.size w wr) := hy
        have HB : Hid (Blk wr w.heap.size #[.int .i64 4, .int .u64 num, .int .i64 node, .string (⟨#[]⟩ : ByteArray), .bool false, .string (⟨#[]⟩ : ByteArray), .int .u64 0, .slice na 0 nc, .slice ra 0 rc, .slice ga 0 gc, .slice oa 0 oc, .slice da 0 dc] 31) := hb
        clear hy hb
        rename World => wc
        go_wp2
        go_ret
        exact ⟨rfl, HY.out⟩

set_option maxRecDepth 100000 in
set_option maxHeartbeats 8000000 in
theorem right11_5 (num : Int) (node : Int) (na : Option Addr) (nc : Nat) (ra : Option Addr) (rc : Nat) (ga : Option Addr) (gc : Nat) (oa : Option Addr) (oc : Nat) (da : Option Addr) (dc : Nat) (ns : List Int) (rs : List ByteArray) (gs : List ChgV) (os : List OpenV) (ds : List DoneV) (w : World) (htid : tidOk num node = true) (hns : Rd w (.slice na 0 nc) (iv ns)) (hnk : nodesOk ns = true) (hrs : Rd w (.slice ra 0 rc) (sv rs)) (hrk : readsOk rs = true) :
    Calls Tryz.prog 10 #[.agg #[.int .i64 5, .int .u64 num, .int .i64 node, .string (⟨#[]⟩ : ByteArray), .bool false, .string (⟨#[]⟩ : ByteArray), .int .u64 0, .slice na 0 nc, .slice ra 0 rc, .slice ga 0 gc, .slice oa 0 oc, .slice da 0 dc]] w (OkP w) := by
  have HNS : Hid (Rd w (.slice na 0 nc) (iv ns) ∧ nodesOk ns = true) := ⟨hns, hnk⟩
  have HRS : Hid (Rd w (.slice ra 0 rc) (sv rs) ∧ readsOk rs = true) := ⟨hrs, hrk⟩
  have HTI : Hid (tidOk num node = true) := htid
  clear htid hns hnk hrs hrk
  have HB : Hid (Blk (w.alloc (.cells #[.int .i64 5, .int .u64 num, .int .i64 node, .string (⟨#[]⟩ : ByteArray), .bool false, .string (⟨#[]⟩ : ByteArray), .int .u64 0, .slice na 0 nc, .slice ra 0 rc, .slice ga 0 gc, .slice oa 0 oc, .slice da 0 dc] 31)) w.heap.size #[.int .i64 5, .int .u64 num, .int .i64 node, .string (⟨#[]⟩ : ByteArray), .bool false, .string (⟨#[]⟩ : ByteArray), .int .u64 0, .slice na 0 nc, .slice ra 0 rc, .slice ga 0 gc, .slice oa 0 oc, .slice da 0 dc] 31) := Blk.new _ _ _
  have HY : Hid (Below w.heap.size w (w.alloc (.cells #[.int .i64 5, .int .u64 num, .int .i64 node, .string (⟨#[]⟩ : ByteArray), .bool false, .string (⟨#[]⟩ : ByteArray), .int .u64 0, .slice na 0 nc, .slice ra 0 rc, .slice ga 0 gc, .slice oa 0 oc, .slice da 0 dc] 31))) := (Below.refl _ _).alloc (Nat.le_refl _) _
  go_enter Tryz.func10, Tryz.ntmps10
  go_upto_region 1 with fail
  generalize (w.alloc (.cells #[.int .i64 5, .int .u64 num, .int .i64 node, .string (⟨#[]⟩ : ByteArray), .bool false, .string (⟨#[]⟩ : ByteArray), .int .u64 0, .slice na 0 nc, .slice ra 0 rc, .slice ga 0 gc, .slice oa 0 oc, .slice da 0 dc] 31)) = w0 at *
  have z0 : w0.cell? ⟨w.heap.size, 0, none⟩ = some (.int .i64 5) := HB.out.cell 0
  have z1 : w0.cell? ⟨w.heap.size, 1, none⟩ = some (.int .u64 num) := HB.out.cell 1
  have z2 : w0.cell? ⟨w.heap.size, 2, none⟩ = some (.int .i64 node) := HB.out.cell 2
  have z3 : w0.cell? ⟨w.heap.size, 3, none⟩ = some (.string (⟨#[]⟩ : ByteArray)) := HB.out.cell 3
  have z4 : w0.cell? ⟨w.heap.size, 4, none⟩ = some (.bool false) := HB.out.cell 4
  have z5 : w0.cell? ⟨w.heap.size, 5, none⟩ = some (.string (⟨#[]⟩ : ByteArray)) := HB.out.cell 5
  have z6 : w0.cell? ⟨w.heap.size, 6, none⟩ = some (.int .u64 0) := HB.out.cell 6
  have z7 : w0.cell? ⟨w.heap.size, 7, none⟩ = some (.slice na 0 nc) := HB.out.cell 7
  have z8 : w0.cell? ⟨w.heap.size, 8, none⟩ = some (.slice ra 0 rc) := HB.out.cell 8
  have z9 : w0.cell? ⟨w.heap.size, 9, none⟩ = some (.slice ga 0 gc) := HB.out.cell 9
  have z10 : w0.cell? ⟨w.heap.size, 10, none⟩ = some (.slice oa 0 oc) := HB.out.cell 10
  have z11 : w0.cell? ⟨w.heap.size, 11, none⟩ = some (.slice da 0 dc) := HB.out.cell 11
  go_wp2_with fail
  refine (tid_ok num node w0 HTI.out).mono ?_
  rintro e w1 ⟨rfl, y⟩
  have HB' : Hid (Blk w1 w.heap.size #[.int .i64 5, .int .u64 num, .int .i64 node, .string (⟨#[]⟩ : ByteArray), .bool false, .string (⟨#[]⟩ : ByteArray), .int .u64 0, .slice na 0 nc, .slice ra 0 rc, .slice ga 0 gc, .slice oa 0 oc, .slice da 0 dc] 31) := Blk.of HB.out (y.block _ HB.out.lt)
  have HY' : Hid (Below w.heap.size w w1) := ext_trans HY.out y
  clear HB HY y
  clear z0 z1 z2 z3 z4 z5 z6 z7 z8 z9 z10 z11
  have HB := HB'
  have HY := HY'
  clear HB' HY'
  have z0 : w1.cell? ⟨w.heap.size, 0, none⟩ = some (.int .i64 5) := HB.out.cell 0
  have z1 : w1.cell? ⟨w.heap.size, 1, none⟩ = some (.int .u64 num) := HB.out.cell 1
  have z2 : w1.cell? ⟨w.heap.size, 2, none⟩ = some (.int .i64 node) := HB.out.cell 2
  have z3 : w1.cell? ⟨w.heap.size, 3, none⟩ = some (.string (⟨#[]⟩ : ByteArray)) := HB.out.cell 3
  have z4 : w1.cell? ⟨w.heap.size, 4, none⟩ = some (.bool false) := HB.out.cell 4
  have z5 : w1.cell? ⟨w.heap.size, 5, none⟩ = some (.string (⟨#[]⟩ : ByteArray)) := HB.out.cell 5
  have z6 : w1.cell? ⟨w.heap.size, 6, none⟩ = some (.int .u64 0) := HB.out.cell 6
  have z7 : w1.cell? ⟨w.heap.size, 7, none⟩ = some (.slice na 0 nc) := HB.out.cell 7
  have z8 : w1.cell? ⟨w.heap.size, 8, none⟩ = some (.slice ra 0 rc) := HB.out.cell 8
  have z9 : w1.cell? ⟨w.heap.size, 9, none⟩ = some (.slice ga 0 gc) := HB.out.cell 9
  have z10 : w1.cell? ⟨w.heap.size, 10, none⟩ = some (.slice oa 0 oc) := HB.out.cell 10
  have z11 : w1.cell? ⟨w.heap.size, 11, none⟩ = some (.slice da 0 dc) := HB.out.cell 11
  go_wp2_with fail
  refine (rising_ok _ ns w1 (HNS.out.1.below HY.out) HNS.out.2).mono ?_
  rintro e w2 ⟨rfl, y⟩
  have HB' : Hid (Blk w2 w.heap.size #[.int .i64 5, .int .u64 num, .int .i64 node, .string (⟨#[]⟩ : ByteArray), .bool false, .string (⟨#[]⟩ : ByteArray), .int .u64 0, .slice na 0 nc, .slice ra 0 rc, .slice ga 0 gc, .slice oa 0 oc, .slice da 0 dc] 31) := Blk.of HB.out (y.block _ HB.out.lt)
  have HY' : Hid (Below w.heap.size w w2) := ext_trans HY.out y
  clear HB HY y
  clear z0 z1 z2 z3 z4 z5 z6 z7 z8 z9 z10 z11
  have HB := HB'
  have HY := HY'
  clear HB' HY'
  have z0 : w2.cell? ⟨w.heap.size, 0, none⟩ = some (.int .i64 5) := HB.out.cell 0
  have z1 : w2.cell? ⟨w.heap.size, 1, none⟩ = some (.int .u64 num) := HB.out.cell 1
  have z2 : w2.cell? ⟨w.heap.size, 2, none⟩ = some (.int .i64 node) := HB.out.cell 2
  have z3 : w2.cell? ⟨w.heap.size, 3, none⟩ = some (.string (⟨#[]⟩ : ByteArray)) := HB.out.cell 3
  have z4 : w2.cell? ⟨w.heap.size, 4, none⟩ = some (.bool false) := HB.out.cell 4
  have z5 : w2.cell? ⟨w.heap.size, 5, none⟩ = some (.string (⟨#[]⟩ : ByteArray)) := HB.out.cell 5
  have z6 : w2.cell? ⟨w.heap.size, 6, none⟩ = some (.int .u64 0) := HB.out.cell 6
  have z7 : w2.cell? ⟨w.heap.size, 7, none⟩ = some (.slice na 0 nc) := HB.out.cell 7
  have z8 : w2.cell? ⟨w.heap.size, 8, none⟩ = some (.slice ra 0 rc) := HB.out.cell 8
  have z9 : w2.cell? ⟨w.heap.size, 9, none⟩ = some (.slice ga 0 gc) := HB.out.cell 9
  have z10 : w2.cell? ⟨w.heap.size, 10, none⟩ = some (.slice oa 0 oc) := HB.out.cell 10
  have z11 : w2.cell? ⟨w.heap.size, 11, none⟩ = some (.slice da 0 dc) := HB.out.cell 11
  go_wp2_with fail
  refine (keys_ok _ rs w2 (HRS.out.1.below HY.out) HRS.out.2).mono ?_
  rintro e w3 ⟨rfl, y⟩
  have HB' : Hid (Blk w3 w.heap.size #[.int .i64 5, .int .u64 num, .int .i64 node, .string (⟨#[]⟩ : ByteArray), .bool false, .string (⟨#[]⟩ : ByteArray), .int .u64 0, .slice na 0 nc, .slice ra 0 rc, .slice ga 0 gc, .slice oa 0 oc, .slice da 0 dc] 31) := Blk.of HB.out (y.block _ HB.out.lt)
  have HY' : Hid (Below w.heap.size w w3) := ext_trans HY.out y
  clear HB HY y
  clear z0 z1 z2 z3 z4 z5 z6 z7 z8 z9 z10 z11
  have HB := HB'
  have HY := HY'
  clear HB' HY'
  have z0 : w3.cell? ⟨w.heap.size, 0, none⟩ = some (.int .i64 5) := HB.out.cell 0
  have z1 : w3.cell? ⟨w.heap.size, 1, none⟩ = some (.int .u64 num) := HB.out.cell 1
  have z2 : w3.cell? ⟨w.heap.size, 2, none⟩ = some (.int .i64 node) := HB.out.cell 2
  have z3 : w3.cell? ⟨w.heap.size, 3, none⟩ = some (.string (⟨#[]⟩ : ByteArray)) := HB.out.cell 3
  have z4 : w3.cell? ⟨w.heap.size, 4, none⟩ = some (.bool false) := HB.out.cell 4
  have z5 : w3.cell? ⟨w.heap.size, 5, none⟩ = some (.string (⟨#[]⟩ : ByteArray)) := HB.out.cell 5
  have z6 : w3.cell? ⟨w.heap.size, 6, none⟩ = some (.int .u64 0) := HB.out.cell 6
  have z7 : w3.cell? ⟨w.heap.size, 7, none⟩ = some (.slice na 0 nc) := HB.out.cell 7
  have z8 : w3.cell? ⟨w.heap.size, 8, none⟩ = some (.slice ra 0 rc) := HB.out.cell 8
  have z9 : w3.cell? ⟨w.heap.size, 9, none⟩ = some (.slice ga 0 gc) := HB.out.cell 9
  have z10 : w3.cell? ⟨w.heap.size, 10, none⟩ = some (.slice oa 0 oc) := HB.out.cell 10
  have z11 : w3.cell? ⟨w.heap.size, 11, none⟩ = some (.slice da 0 dc) := HB.out.cell 11
  go_wp2
  clear z0 z1 z2 z3 z4 z5 z6 z7 z8 z9 z10 z11
  go_loopw [155] (fun i wr => i = .int .i64 0 ∧ Below w.heap.size w wr ∧ Blk wr w.heap.size #[.int .i64 5, .int .u64 num, .int .i64 node, .string (⟨#[]⟩ : ByteArray), .bool false, .string (⟨#[]⟩ : ByteArray), .int .u64 0, .slice na 0 nc, .slice ra 0 rc, .slice ga 0 gc, .slice oa 0 oc, .slice da 0 dc] 31) (fun _ _ => 0)
  case atStart => exact ⟨rfl, HY.out, HB.out⟩
  case round =>
    obtain ⟨rfl, hy, hb⟩ := hrel
    clear HY HB
    have HY : Hid (Below w.heap.size w wr) := hy
    have HB : Hid (Blk wr w.heap.size #[.int .i64 5, .int .u64 num, .int .i64 node, .string (⟨#[]⟩ : ByteArray), .bool false, .string (⟨#[]⟩ : ByteArray), .int .u64 0, .slice na 0 nc, .slice ra 0 rc, .slice ga 0 gc, .slice oa 0 oc, .slice da 0 dc] 31) := hb
    clear hy hb
    rename World => wa
    have z0 : wa.cell? ⟨w.heap.size, 0, none⟩ = some (.int .i64 5) := HB.out.cell 0
    have z1 : wa.cell? ⟨w.heap.size, 1, none⟩ = some (.int .u64 num) := HB.out.cell 1
    have z2 : wa.cell? ⟨w.heap.size, 2, none⟩ = some (.int .i64 node) := HB.out.cell 2
    have z3 : wa.cell? ⟨w.heap.size, 3, none⟩ = some (.string (⟨#[]⟩ : ByteArray)) := HB.out.cell 3
    have z4 : wa.cell? ⟨w.heap.size, 4, none⟩ = some (.bool false) := HB.out.cell 4
    have z5 : wa.cell? ⟨w.heap.size, 5, none⟩ = some (.string (⟨#[]⟩ : ByteArray)) := HB.out.cell 5
    have z6 : wa.cell? ⟨w.heap.size, 6, none⟩ = some (.int .u64 0) := HB.out.cell 6
    have z7 : wa.cell? ⟨w.heap.size, 7, none⟩ = some (.slice na 0 nc) := HB.out.cell 7
    have z8 : wa.cell? ⟨w.heap.size, 8, none⟩ = some (.slice ra 0 rc) := HB.out.cell 8
    have z9 : wa.cell? ⟨w.heap.size, 9, none⟩ = some (.slice ga 0 gc) := HB.out.cell 9
    have z10 : wa.cell? ⟨w.heap.size, 10, none⟩ = some (.slice oa 0 oc) := HB.out.cell 10
    have z11 : wa.cell? ⟨w.heap.size, 11, none⟩ = some (.slice da 0 dc) := HB.out.cell 11
    go_wp2
    clear z0 z1 z2 z3 z4 z5 z6 z7 z8 z9 z10 z11
    go_loopw [194] (fun i wr => i = .int .i64 0 ∧ Below w.heap.size w wr ∧ Blk wr w.heap.size #[.int .i64 5, .int .u64 num, .int .i64 node, .string (⟨#[]⟩ : ByteArray), .bool false, .string (⟨#[]⟩ : ByteArray), .int .u64 0, .slice na 0 nc, .slice ra 0 rc, .slice ga 0 gc, .slice oa 0 oc, .slice da 0 dc] 31) (fun _ _ => 0)
    case atStart => exact ⟨rfl, HY.out, HB.out⟩
    case round =>
      obtain ⟨rfl, hy, hb⟩ := hrel
      clear HY HB
      have HY : Hid (Below w.heap.size w wr) := hy
      have HB : Hid (Blk wr w.heap.size #[.int .i64 5, .int .u64 num, .int .i64 node, .string (⟨#[]⟩ : ByteArray), .bool false, .string (⟨#[]⟩ : ByteArray), .int .u64 0, .slice na 0 nc, .slice ra 0 rc, .slice ga 0 gc, .slice oa 0 oc, .slice da 0 dc] 31) := hb
      clear hy hb
      rename World => wb
      have z0 : wb.cell? ⟨w.heap.size, 0, none⟩ = some (.int .i64 5) := HB.out.cell 0
      have z1 : wb.cell? ⟨w.heap.size, 1, none⟩ = some (.int .u64 num) := HB.out.cell 1
      have z2 : wb.cell? ⟨w.heap.size, 2, none⟩ = some (.int .i64 node) := HB.out.cell 2
      have z3 : wb.cell? ⟨w.heap.size, 3, none⟩ = some (.string (⟨#[]⟩ : ByteArray)) := HB.out.cell 3
      have z4 : wb.cell? ⟨w.heap.size, 4, none⟩ = some (.bool false) := HB.out.cell 4
      have z5 : wb.cell? ⟨w.heap.size, 5, none⟩ = some (.string (⟨#[]⟩ : ByteArray)) := HB.out.cell 5
      have z6 : wb.cell? ⟨w.heap.size, 6, none⟩ = some (.int .u64 0) := HB.out.cell 6
      have z7 : wb.cell? ⟨w.heap.size, 7, none⟩ = some (.slice na 0 nc) := HB.out.cell 7
      have z8 : wb.cell? ⟨w.heap.size, 8, none⟩ = some (.slice ra 0 rc) := HB.out.cell 8
      have z9 : wb.cell? ⟨w.heap.size, 9, none⟩ = some (.slice ga 0 gc) := HB.out.cell 9
      have z10 : wb.cell? ⟨w.heap.size, 10, none⟩ = some (.slice oa 0 oc) := HB.out.cell 10
      have z11 : wb.cell? ⟨w.heap.size, 11, none⟩ = some (.slice da 0 dc) := HB.out.cell 11
      go_wp2
      clear z0 z1 z2 z3 z4 z5 z6 z7 z8 z9 z10 z11
      go_loopw [250] (fun i wr => i = .int .i64 0 ∧ Below w.heap.size w wr ∧ Blk wr w.heap.size #[.int .i64 5, .int .u64 num, .int .i64 node, .string (⟨#[]⟩ : ByteArray), .bool false, .string (⟨#[]⟩ : ByteArray), .int .u64 0, .slice na 0 nc, .slice ra 0 rc, .slice ga 0 gc, .slice oa 0 oc, .slice da 0 dc] 31) (fun _ _ => 0)
      case atStart => exact ⟨rfl, HY.out, HB.out⟩
      case round =>
        obtain ⟨rfl, hy, hb⟩ := hrel
        clear HY HB
        have HY : Hid (Below w.heap.size w wr) := hy
        have HB : Hid (Blk wr w.heap.size #[.int .i64 5, .int .u64 num, .int .i64 node, .string (⟨#[]⟩ : ByteArray), .bool false, .string (⟨#[]⟩ : ByteArray), .int .u64 0, .slice na 0 nc, .slice ra 0 rc, .slice ga 0 gc, .slice oa 0 oc, .slice da 0 dc] 31) := hb
        clear hy hb
        rename World => wc
        go_wp2
        go_ret
        exact ⟨rfl, HY.out⟩

set_option maxRecDepth 100000 in
set_option maxHeartbeats 8000000 in
theorem right11_6 (num : Int) (node : Int) (na : Option Addr) (nn : Nat) (nc : Nat) (ra : Option Addr) (rc : Nat) (ga : Option Addr) (gc : Nat) (oa : Option Addr) (oc : Nat) (da : Option Addr) (dc : Nat) (ns : List Int) (rs : List ByteArray) (gs : List ChgV) (os : List OpenV) (ds : List DoneV) (w : World) (htid : tidOk num node = true) (hns : Rd w (.slice na nn nc) (iv ns)) (hnk : nodesOk ns = true) (hrs : Rd w (.slice ra 0 rc) (sv rs)) (hrk : readsOk rs = true) :
    Calls Tryz.prog 10 #[.agg #[.int .i64 6, .int .u64 num, .int .i64 node, .string (⟨#[]⟩ : ByteArray), .bool false, .string (⟨#[]⟩ : ByteArray), .int .u64 0, .slice na nn nc, .slice ra 0 rc, .slice ga 0 gc, .slice oa 0 oc, .slice da 0 dc]] w (OkP w) := by
  have HNS : Hid (Rd w (.slice na nn nc) (iv ns) ∧ nodesOk ns = true) := ⟨hns, hnk⟩
  have HRS : Hid (Rd w (.slice ra 0 rc) (sv rs) ∧ readsOk rs = true) := ⟨hrs, hrk⟩
  have HTI : Hid (tidOk num node = true) := htid
  clear htid hns hnk hrs hrk
  have HB : Hid (Blk (w.alloc (.cells #[.int .i64 6, .int .u64 num, .int .i64 node, .string (⟨#[]⟩ : ByteArray), .bool false, .string (⟨#[]⟩ : ByteArray), .int .u64 0, .slice na nn nc, .slice ra 0 rc, .slice ga 0 gc, .slice oa 0 oc, .slice da 0 dc] 31)) w.heap.size #[.int .i64 6, .int .u64 num, .int .i64 node, .string (⟨#[]⟩ : ByteArray), .bool false, .string (⟨#[]⟩ : ByteArray), .int .u64 0, .slice na nn nc, .slice ra 0 rc, .slice ga 0 gc, .slice oa 0 oc, .slice da 0 dc] 31) := Blk.new _ _ _
  have HY : Hid (Below w.heap.size w (w.alloc (.cells #[.int .i64 6, .int .u64 num, .int .i64 node, .string (⟨#[]⟩ : ByteArray), .bool false, .string (⟨#[]⟩ : ByteArray), .int .u64 0, .slice na nn nc, .slice ra 0 rc, .slice ga 0 gc, .slice oa 0 oc, .slice da 0 dc] 31))) := (Below.refl _ _).alloc (Nat.le_refl _) _
  go_enter Tryz.func10, Tryz.ntmps10
  go_upto_region 1 with fail
  generalize (w.alloc (.cells #[.int .i64 6, .int .u64 num, .int .i64 node, .string (⟨#[]⟩ : ByteArray), .bool false, .string (⟨#[]⟩ : ByteArray), .int .u64 0, .slice na nn nc, .slice ra 0 rc, .slice ga 0 gc, .slice oa 0 oc, .slice da 0 dc] 31)) = w0 at *
  have z0 : w0.cell? ⟨w.heap.size, 0, none⟩ = some (.int .i64 6) := HB.out.cell 0
  have z1 : w0.cell? ⟨w.heap.size, 1, none⟩ = some (.int .u64 num) := HB.out.cell 1
  have z2 : w0.cell? ⟨w.heap.size, 2, none⟩ = some (.int .i64 node) := HB.out.cell 2
  have z3 : w0.cell? ⟨w.heap.size, 3, none⟩ = some (.string (⟨#[]⟩ : ByteArray)) := HB.out.cell 3
  have z4 : w0.cell? ⟨w.heap.size, 4, none⟩ = some (.bool false) := HB.out.cell 4
  have z5 : w0.cell? ⟨w.heap.size, 5, none⟩ = some (.string (⟨#[]⟩ : ByteArray)) := HB.out.cell 5
  have z6 : w0.cell? ⟨w.heap.size, 6, none⟩ = some (.int .u64 0) := HB.out.cell 6
  have z7 : w0.cell? ⟨w.heap.size, 7, none⟩ = some (.slice na nn nc) := HB.out.cell 7
  have z8 : w0.cell? ⟨w.heap.size, 8, none⟩ = some (.slice ra 0 rc) := HB.out.cell 8
  have z9 : w0.cell? ⟨w.heap.size, 9, none⟩ = some (.slice ga 0 gc) := HB.out.cell 9
  have z10 : w0.cell? ⟨w.heap.size, 10, none⟩ = some (.slice oa 0 oc) := HB.out.cell 10
  have z11 : w0.cell? ⟨w.heap.size, 11, none⟩ = some (.slice da 0 dc) := HB.out.cell 11
  go_wp2_with fail
  refine (tid_ok num node w0 HTI.out).mono ?_
  rintro e w1 ⟨rfl, y⟩
  have HB' : Hid (Blk w1 w.heap.size #[.int .i64 6, .int .u64 num, .int .i64 node, .string (⟨#[]⟩ : ByteArray), .bool false, .string (⟨#[]⟩ : ByteArray), .int .u64 0, .slice na nn nc, .slice ra 0 rc, .slice ga 0 gc, .slice oa 0 oc, .slice da 0 dc] 31) := Blk.of HB.out (y.block _ HB.out.lt)
  have HY' : Hid (Below w.heap.size w w1) := ext_trans HY.out y
  clear HB HY y
  clear z0 z1 z2 z3 z4 z5 z6 z7 z8 z9 z10 z11
  have HB := HB'
  have HY := HY'
  clear HB' HY'
  have z0 : w1.cell? ⟨w.heap.size, 0, none⟩ = some (.int .i64 6) := HB.out.cell 0
  have z1 : w1.cell? ⟨w.heap.size, 1, none⟩ = some (.int .u64 num) := HB.out.cell 1
  have z2 : w1.cell? ⟨w.heap.size, 2, none⟩ = some (.int .i64 node) := HB.out.cell 2
  have z3 : w1.cell? ⟨w.heap.size, 3, none⟩ = some (.string (⟨#[]⟩ : ByteArray)) := HB.out.cell 3
  have z4 : w1.cell? ⟨w.heap.size, 4, none⟩ = some (.bool false) := HB.out.cell 4
  have z5 : w1.cell? ⟨w.heap.size, 5, none⟩ = some (.string (⟨#[]⟩ : ByteArray)) := HB.out.cell 5
  have z6 : w1.cell? ⟨w.heap.size, 6, none⟩ = some (.int .u64 0) := HB.out.cell 6
  have z7 : w1.cell? ⟨w.heap.size, 7, none⟩ = some (.slice na nn nc) := HB.out.cell 7
  have z8 : w1.cell? ⟨w.heap.size, 8, none⟩ = some (.slice ra 0 rc) := HB.out.cell 8
  have z9 : w1.cell? ⟨w.heap.size, 9, none⟩ = some (.slice ga 0 gc) := HB.out.cell 9
  have z10 : w1.cell? ⟨w.heap.size, 10, none⟩ = some (.slice oa 0 oc) := HB.out.cell 10
  have z11 : w1.cell? ⟨w.heap.size, 11, none⟩ = some (.slice da 0 dc) := HB.out.cell 11
  go_wp2_with fail
  refine (rising_ok _ ns w1 (HNS.out.1.below HY.out) HNS.out.2).mono ?_
  rintro e w2 ⟨rfl, y⟩
  have HB' : Hid (Blk w2 w.heap.size #[.int .i64 6, .int .u64 num, .int .i64 node, .string (⟨#[]⟩ : ByteArray), .bool false, .string (⟨#[]⟩ : ByteArray), .int .u64 0, .slice na nn nc, .slice ra 0 rc, .slice ga 0 gc, .slice oa 0 oc, .slice da 0 dc] 31) := Blk.of HB.out (y.block _ HB.out.lt)
  have HY' : Hid (Below w.heap.size w w2) := ext_trans HY.out y
  clear HB HY y
  clear z0 z1 z2 z3 z4 z5 z6 z7 z8 z9 z10 z11
  have HB := HB'
  have HY := HY'
  clear HB' HY'
  have z0 : w2.cell? ⟨w.heap.size, 0, none⟩ = some (.int .i64 6) := HB.out.cell 0
  have z1 : w2.cell? ⟨w.heap.size, 1, none⟩ = some (.int .u64 num) := HB.out.cell 1
  have z2 : w2.cell? ⟨w.heap.size, 2, none⟩ = some (.int .i64 node) := HB.out.cell 2
  have z3 : w2.cell? ⟨w.heap.size, 3, none⟩ = some (.string (⟨#[]⟩ : ByteArray)) := HB.out.cell 3
  have z4 : w2.cell? ⟨w.heap.size, 4, none⟩ = some (.bool false) := HB.out.cell 4
  have z5 : w2.cell? ⟨w.heap.size, 5, none⟩ = some (.string (⟨#[]⟩ : ByteArray)) := HB.out.cell 5
  have z6 : w2.cell? ⟨w.heap.size, 6, none⟩ = some (.int .u64 0) := HB.out.cell 6
  have z7 : w2.cell? ⟨w.heap.size, 7, none⟩ = some (.slice na nn nc) := HB.out.cell 7
  have z8 : w2.cell? ⟨w.heap.size, 8, none⟩ = some (.slice ra 0 rc) := HB.out.cell 8
  have z9 : w2.cell? ⟨w.heap.size, 9, none⟩ = some (.slice ga 0 gc) := HB.out.cell 9
  have z10 : w2.cell? ⟨w.heap.size, 10, none⟩ = some (.slice oa 0 oc) := HB.out.cell 10
  have z11 : w2.cell? ⟨w.heap.size, 11, none⟩ = some (.slice da 0 dc) := HB.out.cell 11
  go_wp2_with fail
  refine (keys_ok _ rs w2 (HRS.out.1.below HY.out) HRS.out.2).mono ?_
  rintro e w3 ⟨rfl, y⟩
  have HB' : Hid (Blk w3 w.heap.size #[.int .i64 6, .int .u64 num, .int .i64 node, .string (⟨#[]⟩ : ByteArray), .bool false, .string (⟨#[]⟩ : ByteArray), .int .u64 0, .slice na nn nc, .slice ra 0 rc, .slice ga 0 gc, .slice oa 0 oc, .slice da 0 dc] 31) := Blk.of HB.out (y.block _ HB.out.lt)
  have HY' : Hid (Below w.heap.size w w3) := ext_trans HY.out y
  clear HB HY y
  clear z0 z1 z2 z3 z4 z5 z6 z7 z8 z9 z10 z11
  have HB := HB'
  have HY := HY'
  clear HB' HY'
  have z0 : w3.cell? ⟨w.heap.size, 0, none⟩ = some (.int .i64 6) := HB.out.cell 0
  have z1 : w3.cell? ⟨w.heap.size, 1, none⟩ = some (.int .u64 num) := HB.out.cell 1
  have z2 : w3.cell? ⟨w.heap.size, 2, none⟩ = some (.int .i64 node) := HB.out.cell 2
  have z3 : w3.cell? ⟨w.heap.size, 3, none⟩ = some (.string (⟨#[]⟩ : ByteArray)) := HB.out.cell 3
  have z4 : w3.cell? ⟨w.heap.size, 4, none⟩ = some (.bool false) := HB.out.cell 4
  have z5 : w3.cell? ⟨w.heap.size, 5, none⟩ = some (.string (⟨#[]⟩ : ByteArray)) := HB.out.cell 5
  have z6 : w3.cell? ⟨w.heap.size, 6, none⟩ = some (.int .u64 0) := HB.out.cell 6
  have z7 : w3.cell? ⟨w.heap.size, 7, none⟩ = some (.slice na nn nc) := HB.out.cell 7
  have z8 : w3.cell? ⟨w.heap.size, 8, none⟩ = some (.slice ra 0 rc) := HB.out.cell 8
  have z9 : w3.cell? ⟨w.heap.size, 9, none⟩ = some (.slice ga 0 gc) := HB.out.cell 9
  have z10 : w3.cell? ⟨w.heap.size, 10, none⟩ = some (.slice oa 0 oc) := HB.out.cell 10
  have z11 : w3.cell? ⟨w.heap.size, 11, none⟩ = some (.slice da 0 dc) := HB.out.cell 11
  go_wp2
  clear z0 z1 z2 z3 z4 z5 z6 z7 z8 z9 z10 z11
  go_loopw [155] (fun i wr => i = .int .i64 0 ∧ Below w.heap.size w wr ∧ Blk wr w.heap.size #[.int .i64 6, .int .u64 num, .int .i64 node, .string (⟨#[]⟩ : ByteArray), .bool false, .string (⟨#[]⟩ : ByteArray), .int .u64 0, .slice na nn nc, .slice ra 0 rc, .slice ga 0 gc, .slice oa 0 oc, .slice da 0 dc] 31) (fun _ _ => 0)
  case atStart => exact ⟨rfl, HY.out, HB.out⟩
  case round =>
    obtain ⟨rfl, hy, hb⟩ := hrel
    clear HY HB
    have HY : Hid (Below w.heap.size w wr) := hy
    have HB : Hid (Blk wr w.heap.size #[.int .i64 6, .int .u64 num, .int .i64 node, .string (⟨#[]⟩ : ByteArray), .bool false, .string (⟨#[]⟩ : ByteArray), .int .u64 0, .slice na nn nc, .slice ra 0 rc, .slice ga 0 gc, .slice oa 0 oc, .slice da 0 dc] 31) := hb
    clear hy hb
    rename World => wa
    have z0 : wa.cell? ⟨w.heap.size, 0, none⟩ = some (.int .i64 6) := HB.out.cell 0
    have z1 : wa.cell? ⟨w.heap.size, 1, none⟩ = some (.int .u64 num) := HB.out.cell 1
    have z2 : wa.cell? ⟨w.heap.size, 2, none⟩ = some (.int .i64 node) := HB.out.cell 2
    have z3 : wa.cell? ⟨w.heap.size, 3, none⟩ = some (.string (⟨#[]⟩ : ByteArray)) := HB.out.cell 3
    have z4 : wa.cell? ⟨w.heap.size, 4, none⟩ = some (.bool false) := HB.out.cell 4
    have z5 : wa.cell? ⟨w.heap.size, 5, none⟩ = some (.string (⟨#[]⟩ : ByteArray)) := HB.out.cell 5
    have z6 : wa.cell? ⟨w.heap.size, 6, none⟩ = some (.int .u64 0) := HB.out.cell 6
    have z7 : wa.cell? ⟨w.heap.size, 7, none⟩ = some (.slice na nn nc) := HB.out.cell 7
    have z8 : wa.cell? ⟨w.heap.size, 8, none⟩ = some (.slice ra 0 rc) := HB.out.cell 8
    have z9 : wa.cell? ⟨w.heap.size, 9, none⟩ = some (.slice ga 0 gc) := HB.out.cell 9
    have z10 : wa.cell? ⟨w.heap.size, 10, none⟩ = some (.slice oa 0 oc) := HB.out.cell 10
    have z11 : wa.cell? ⟨w.heap.size, 11, none⟩ = some (.slice da 0 dc) := HB.out.cell 11
    go_wp2
    clear z0 z1 z2 z3 z4 z5 z6 z7 z8 z9 z10 z11
    go_loopw [194] (fun i wr => i = .int .i64 0 ∧ Below w.heap.size w wr ∧ Blk wr w.heap.size #[.int .i64 6, .int .u64 num, .int .i64 node, .string (⟨#[]⟩ : ByteArray), .bool false, .string (⟨#[]⟩ : ByteArray), .int .u64 0, .slice na nn nc, .slice ra 0 rc, .slice ga 0 gc, .slice oa 0 oc, .slice da 0 dc] 31) (fun _ _ => 0)
    case atStart => exact ⟨rfl, HY.out, HB.out⟩
    case round =>
      obtain ⟨rfl, hy, hb⟩ := hrel
      clear HY HB
      have HY : Hid (Below w.heap.size w wr) := hy
      have HB : Hid (Blk wr w.heap.size #[.int .i64 6, .int .u64 num, .int .i64 node, .string (⟨#[]⟩ : ByteArray), .bool false, .string (⟨#[]⟩ : ByteArray), .int .u64 0, .slice na nn nc, .slice ra 0 rc, .slice ga 0 gc, .slice oa 0 oc, .slice da 0 dc] 31) := hb
      clear hy hb
      rename World => wb
      have z0 : wb.cell? ⟨w.heap.size, 0, none⟩ = some (.int .i64 6) := HB.out.cell 0
      have z1 : wb.cell? ⟨w.heap.size, 1, none⟩ = some (.int .u64 num) := HB.out.cell 1
      have z2 : wb.cell? ⟨w.heap.size, 2, none⟩ = some (.int .i64 node) := HB.out.cell 2
      have z3 : wb.cell? ⟨w.heap.size, 3, none⟩ = some (.string (⟨#[]⟩ : ByteArray)) := HB.out.cell 3
      have z4 : wb.cell? ⟨w.heap.size, 4, none⟩ = some (.bool false) := HB.out.cell 4
      have z5 : wb.cell? ⟨w.heap.size, 5, none⟩ = some (.string (⟨#[]⟩ : ByteArray)) := HB.out.cell 5
      have z6 : wb.cell? ⟨w.heap.size, 6, none⟩ = some (.int .u64 0) := HB.out.cell 6
      have z7 : wb.cell? ⟨w.heap.size, 7, none⟩ = some (.slice na nn nc) := HB.out.cell 7
      have z8 : wb.cell? ⟨w.heap.size, 8, none⟩ = some (.slice ra 0 rc) := HB.out.cell 8
      have z9 : wb.cell? ⟨w.heap.size, 9, none⟩ = some (.slice ga 0 gc) := HB.out.cell 9
      have z10 : wb.cell? ⟨w.heap.size, 10, none⟩ = some (.slice oa 0 oc) := HB.out.cell 10
      have z11 : wb.cell? ⟨w.heap.size, 11, none⟩ = some (.slice da 0 dc) := HB.out.cell 11
      go_wp2
      clear z0 z1 z2 z3 z4 z5 z6 z7 z8 z9 z10 z11
      go_loopw [250] (fun i wr => i = .int .i64 0 ∧ Below w.heap.size w wr ∧ Blk wr w.heap.size #[.int .i64 6, .int .u64 num, .int .i64 node, .string (⟨#[]⟩ : ByteArray), .bool false, .string (⟨#[]⟩ : ByteArray), .int .u64 0, .slice na nn nc, .slice ra 0 rc, .slice ga 0 gc, .slice oa 0 oc, .slice da 0 dc] 31) (fun _ _ => 0)
      case atStart => exact ⟨rfl, HY.out, HB.out⟩
      case round =>
        obtain ⟨rfl, hy, hb⟩ := hrel
        clear HY HB
        have HY : Hid (Below w.heap.size w wr) := hy
        have HB : Hid (Blk wr w.heap.size #[.int .i64 6, .int .u64 num, .int .i64 node, .string (⟨#[]⟩ : ByteArray), .bool false, .string (⟨#[]⟩ : ByteArray), .int .u64 0, .slice na nn nc, .slice ra 0 rc, .slice ga 0 gc, .slice oa 0 oc, .slice da 0 dc] 31) := hb
        clear hy hb
        rename World => wc
        go_wp2
        go_ret
        exact ⟨rfl, HY.out⟩

set_option maxRecDepth 100000 in
set_option maxHeartbeats 8000000 in
theorem right11_7 (num : Int) (node : Int) (na : Option Addr) (nc : Nat) (ra : Option Addr) (rc : Nat) (ga : Option Addr) (gc : Nat) (oa : Option Addr) (oc : Nat) (da : Option Addr) (dc : Nat) (ns : List Int) (rs : List ByteArray) (gs : List ChgV) (os : List OpenV) (ds : List DoneV) (w : World) (htid : tidOk num node = true) (hns : Rd w (.slice na 0 nc) (iv ns)) (hnk : nodesOk ns = true) (hrs : Rd w (.slice ra 0 rc) (sv rs)) (hrk : readsOk rs = true) :
    Calls Tryz.prog 10 #[.agg #[.int .i64 7, .int .u64 num, .int .i64 node, .string (⟨#[]⟩ : ByteArray), .bool false, .string (⟨#[]⟩ : ByteArray), .int .u64 0, .slice na 0 nc, .slice ra 0 rc, .slice ga 0 gc, .slice oa 0 oc, .slice da 0 dc]] w (OkP w) := by
  have HNS : Hid (Rd w (.slice na 0 nc) (iv ns) ∧ nodesOk ns = true) := ⟨hns, hnk⟩
  have HRS : Hid (Rd w (.slice ra 0 rc) (sv rs) ∧ readsOk rs = true) := ⟨hrs, hrk⟩
  have HTI : Hid (tidOk num node = true) := htid
  clear htid hns hnk hrs hrk
  have HB : Hid (Blk (w.alloc (.cells #[.int .i64 7, .int .u64 num, .int .i64 node, .string (⟨#[]⟩ : ByteArray), .bool false, .string (⟨#[]⟩ : ByteArray), .int .u64 0, .slice na 0 nc, .slice ra 0 rc, .slice ga 0 gc, .slice oa 0 oc, .slice da 0 dc] 31)) w.heap.size #[.int .i64 7, .int .u64 num, .int .i64 node, .string (⟨#[]⟩ : ByteArray), .bool false, .string (⟨#[]⟩ : ByteArray), .int .u64 0, .slice na 0 nc, .slice ra 0 rc, .slice ga 0 gc, .slice oa 0 oc, .slice da 0 dc] 31) := Blk.new _ _ _
  have HY : Hid (Below w.heap.size w (w.alloc (.cells #[.int .i64 7, .int .u64 num, .int .i64 node, .string (⟨#[]⟩ : ByteArray), .bool false, .string (⟨#[]⟩ : ByteArray), .int .u64 0, .slice na 0 nc, .slice ra 0 rc, .slice ga 0 gc, .slice oa 0 oc, .slice da 0 dc] 31))) := (Below.refl _ _).alloc (Nat.le_refl _) _
  go_enter Tryz.func10, Tryz.ntmps10
  go_upto_region 1 with fail
  generalize (w.alloc (.cells #[.int .i64 7, .int .u64 num, .int .i64 node, .string (⟨#[]⟩ : ByteArray), .bool false, .string (⟨#[]⟩ : ByteArray), .int .u64 0, .slice na 0 nc, .slice ra 0 rc, .slice ga 0 gc, .slice oa 0 oc, .slice da 0 dc] 31)) = w0 at *
  have z0 : w0.cell? ⟨w.heap.size, 0, none⟩ = some (.int .i64 7) := HB.out.cell 0
  have z1 : w0.cell? ⟨w.heap.size, 1, none⟩ = some (.int .u64 num) := HB.out.cell 1
  have z2 : w0.cell? ⟨w.heap.size, 2, none⟩ = some (.int .i64 node) := HB.out.cell 2
  have z3 : w0.cell? ⟨w.heap.size, 3, none⟩ = some (.string (⟨#[]⟩ : ByteArray)) := HB.out.cell 3
  have z4 : w0.cell? ⟨w.heap.size, 4, none⟩ = some (.bool false) := HB.out.cell 4
  have z5 : w0.cell? ⟨w.heap.size, 5, none⟩ = some (.string (⟨#[]⟩ : ByteArray)) := HB.out.cell 5
  have z6 : w0.cell? ⟨w.heap.size, 6, none⟩ = some (.int .u64 0) := HB.out.cell 6
  have z7 : w0.cell? ⟨w.heap.size, 7, none⟩ = some (.slice na 0 nc) := HB.out.cell 7
  have z8 : w0.cell? ⟨w.heap.size, 8, none⟩ = some (.slice ra 0 rc) := HB.out.cell 8
  have z9 : w0.cell? ⟨w.heap.size, 9, none⟩ = some (.slice ga 0 gc) := HB.out.cell 9
  have z10 : w0.cell? ⟨w.heap.size, 10, none⟩ = some (.slice oa 0 oc) := HB.out.cell 10
  have z11 : w0.cell? ⟨w.heap.size, 11, none⟩ = some (.slice da 0 dc) := HB.out.cell 11
  go_wp2_with fail
  refine (tid_ok num node w0 HTI.out).mono ?_
  rintro e w1 ⟨rfl, y⟩
  have HB' : Hid (Blk w1 w.heap.size #[.int .i64 7, .int .u64 num, .int .i64 node, .string (⟨#[]⟩ : ByteArray), .bool false, .string (⟨#[]⟩ : ByteArray), .int .u64 0, .slice na 0 nc, .slice ra 0 rc, .slice ga 0 gc, .slice oa 0 oc, .slice da 0 dc] 31) := Blk.of HB.out (y.block _ HB.out.lt)
  have HY' : Hid (Below w.heap.size w w1) := ext_trans HY.out y
  clear HB HY y
  clear z0 z1 z2 z3 z4 z5 z6 z7 z8 z9 z10 z11
  have HB := HB'
  have HY := HY'
  clear HB' HY'
  have z0 : w1.cell? ⟨w.heap.size, 0, none⟩ = some (.int .i64 7) := HB.out.cell 0
  have z1 : w1.cell? ⟨w.heap.size, 1, none⟩ = some (.int .u64 num) := HB.out.cell 1
  have z2 : w1.cell? ⟨w.heap.size, 2, none⟩ = some (.int .i64 node) := HB.out.cell 2
  have z3 : w1.cell? ⟨w.heap.size, 3, none⟩ = some (.string (⟨#[]⟩ : ByteArray)) := HB.out.cell 3
  have z4 : w1.cell? ⟨w.heap.size, 4, none⟩ = some (.bool false) := HB.out.cell 4
  have z5 : w1.cell? ⟨w.heap.size, 5, none⟩ = some (.string (⟨#[]⟩ : ByteArray)) := HB.out.cell 5
  have z6 : w1.cell? ⟨w.heap.size, 6, none⟩ = some (.int .u64 0) := HB.out.cell 6
  have z7 : w1.cell? ⟨w.heap.size, 7, none⟩ = some (.slice na 0 nc) := HB.out.cell 7
  have z8 : w1.cell? ⟨w.heap.size, 8, none⟩ = some (.slice ra 0 rc) := HB.out.cell 8
  have z9 : w1.cell? ⟨w.heap.size, 9, none⟩ = some (.slice ga 0 gc) := HB.out.cell 9
  have z10 : w1.cell? ⟨w.heap.size, 10, none⟩ = some (.slice oa 0 oc) := HB.out.cell 10
  have z11 : w1.cell? ⟨w.heap.size, 11, none⟩ = some (.slice da 0 dc) := HB.out.cell 11
  go_wp2_with fail
  refine (rising_ok _ ns w1 (HNS.out.1.below HY.out) HNS.out.2).mono ?_
  rintro e w2 ⟨rfl, y⟩
  have HB' : Hid (Blk w2 w.heap.size #[.int .i64 7, .int .u64 num, .int .i64 node, .string (⟨#[]⟩ : ByteArray), .bool false, .string (⟨#[]⟩ : ByteArray), .int .u64 0, .slice na 0 nc, .slice ra 0 rc, .slice ga 0 gc, .slice oa 0 oc, .slice da 0 dc] 31) := Blk.of HB.out (y.block _ HB.out.lt)
  have HY' : Hid (Below w.heap.size w w2) := ext_trans HY.out y
  clear HB HY y
  clear z0 z1 z2 z3 z4 z5 z6 z7 z8 z9 z10 z11
  have HB := HB'
  have HY := HY'
  clear HB' HY'
  have z0 : w2.cell? ⟨w.heap.size, 0, none⟩ = some (.int .i64 7) := HB.out.cell 0
  have z1 : w2.cell? ⟨w.heap.size, 1, none⟩ = some (.int .u64 num) := HB.out.cell 1
  have z2 : w2.cell? ⟨w.heap.size, 2, none⟩ = some (.int .i64 node) := HB.out.cell 2
  have z3 : w2.cell? ⟨w.heap.size, 3, none⟩ = some (.string (⟨#[]⟩ : ByteArray)) := HB.out.cell 3
  have z4 : w2.cell? ⟨w.heap.size, 4, none⟩ = some (.bool false) := HB.out.cell 4
  have z5 : w2.cell? ⟨w.heap.size, 5, none⟩ = some (.string (⟨#[]⟩ : ByteArray)) := HB.out.cell 5
  have z6 : w2.cell? ⟨w.heap.size, 6, none⟩ = some (.int .u64 0) := HB.out.cell 6
  have z7 : w2.cell? ⟨w.heap.size, 7, none⟩ = some (.slice na 0 nc) := HB.out.cell 7
  have z8 : w2.cell? ⟨w.heap.size, 8, none⟩ = some (.slice ra 0 rc) := HB.out.cell 8
  have z9 : w2.cell? ⟨w.heap.size, 9, none⟩ = some (.slice ga 0 gc) := HB.out.cell 9
  have z10 : w2.cell? ⟨w.heap.size, 10, none⟩ = some (.slice oa 0 oc) := HB.out.cell 10
  have z11 : w2.cell? ⟨w.heap.size, 11, none⟩ = some (.slice da 0 dc) := HB.out.cell 11
  go_wp2_with fail
  refine (keys_ok _ rs w2 (HRS.out.1.below HY.out) HRS.out.2).mono ?_
  rintro e w3 ⟨rfl, y⟩
  have HB' : Hid (Blk w3 w.heap.size #[.int .i64 7, .int .u64 num, .int .i64 node, .string (⟨#[]⟩ : ByteArray), .bool false, .string (⟨#[]⟩ : ByteArray), .int .u64 0, .slice na 0 nc, .slice ra 0 rc, .slice ga 0 gc, .slice oa 0 oc, .slice da 0 dc] 31) := Blk.of HB.out (y.block _ HB.out.lt)
  have HY' : Hid (Below w.heap.size w w3) := ext_trans HY.out y
  clear HB HY y
  clear z0 z1 z2 z3 z4 z5 z6 z7 z8 z9 z10 z11
  have HB := HB'
  have HY := HY'
  clear HB' HY'
  have z0 : w3.cell? ⟨w.heap.size, 0, none⟩ = some (.int .i64 7) := HB.out.cell 0
  have z1 : w3.cell? ⟨w.heap.size, 1, none⟩ = some (.int .u64 num) := HB.out.cell 1
  have z2 : w3.cell? ⟨w.heap.size, 2, none⟩ = some (.int .i64 node) := HB.out.cell 2
  have z3 : w3.cell? ⟨w.heap.size, 3, none⟩ = some (.string (⟨#[]⟩ : ByteArray)) := HB.out.cell 3
  have z4 : w3.cell? ⟨w.heap.size, 4, none⟩ = some (.bool false) := HB.out.cell 4
  have z5 : w3.cell? ⟨w.heap.size, 5, none⟩ = some (.string (⟨#[]⟩ : ByteArray)) := HB.out.cell 5
  have z6 : w3.cell? ⟨w.heap.size, 6, none⟩ = some (.int .u64 0) := HB.out.cell 6
  have z7 : w3.cell? ⟨w.heap.size, 7, none⟩ = some (.slice na 0 nc) := HB.out.cell 7
  have z8 : w3.cell? ⟨w.heap.size, 8, none⟩ = some (.slice ra 0 rc) := HB.out.cell 8
  have z9 : w3.cell? ⟨w.heap.size, 9, none⟩ = some (.slice ga 0 gc) := HB.out.cell 9
  have z10 : w3.cell? ⟨w.heap.size, 10, none⟩ = some (.slice oa 0 oc) := HB.out.cell 10
  have z11 : w3.cell? ⟨w.heap.size, 11, none⟩ = some (.slice da 0 dc) := HB.out.cell 11
  go_wp2
  clear z0 z1 z2 z3 z4 z5 z6 z7 z8 z9 z10 z11
  go_loopw [155] (fun i wr => i = .int .i64 0 ∧ Below w.heap.size w wr ∧ Blk wr w.heap.size #[.int .i64 7, .int .u64 num, .int .i64 node, .string (⟨#[]⟩ : ByteArray), .bool false, .string (⟨#[]⟩ : ByteArray), .int .u64 0, .slice na 0 nc, .slice ra 0 rc, .slice ga 0 gc, .slice oa 0 oc, .slice da 0 dc] 31) (fun _ _ => 0)
  case atStart => exact ⟨rfl, HY.out, HB.out⟩
  case round =>
    obtain ⟨rfl, hy, hb⟩ := hrel
    clear HY HB
    have HY : Hid (Below w.heap.size w wr) := hy
    have HB : Hid (Blk wr w.heap.size #[.int .i64 7, .int .u64 num, .int .i64 node, .string (⟨#[]⟩ : ByteArray), .bool false, .string (⟨#[]⟩ : ByteArray), .int .u64 0, .slice na 0 nc, .slice ra 0 rc, .slice ga 0 gc, .slice oa 0 oc, .slice da 0 dc] 31) := hb
    clear hy hb
    rename World => wa
    have z0 : wa.cell? ⟨w.heap.size, 0, none⟩ = some (.int .i64 7) := HB.out.cell 0
    have z1 : wa.cell? ⟨w.heap.size, 1, none⟩ = some (.int .u64 num) := HB.out.cell 1
    have z2 : wa.cell? ⟨w.heap.size, 2, none⟩ = some (.int .i64 node) := HB.out.cell 2
    have z3 : wa.cell? ⟨w.heap.size, 3, none⟩ = some (.string (⟨#[]⟩ : ByteArray)) := HB.out.cell 3
    have z4 : wa.cell? ⟨w.heap.size, 4, none⟩ = some (.bool false) := HB.out.cell 4
    have z5 : wa.cell? ⟨w.heap.size, 5, none⟩ = some (.string (⟨#[]⟩ : ByteArray)) := HB.out.cell 5
    have z6 : wa.cell? ⟨w.heap.size, 6, none⟩ = some (.int .u64 0) := HB.out.cell 6
    have z7 : wa.cell? ⟨w.heap.size, 7, none⟩ = some (.slice na 0 nc) := HB.out.cell 7
    have z8 : wa.cell? ⟨w.heap.size, 8, none⟩ = some (.slice ra 0 rc) := HB.out.cell 8
    have z9 : wa.cell? ⟨w.heap.size, 9, none⟩ = some (.slice ga 0 gc) := HB.out.cell 9
    have z10 : wa.cell? ⟨w.heap.size, 10, none⟩ = some (.slice oa 0 oc) := HB.out.cell 10
    have z11 : wa.cell? ⟨w.heap.size, 11, none⟩ = some (.slice da 0 dc) := HB.out.cell 11
    go_wp2
    clear z0 z1 z2 z3 z4 z5 z6 z7 z8 z9 z10 z11
    go_loopw [194] (fun i wr => i = .int .i64 0 ∧ Below w.heap.size w wr ∧ Blk wr w.heap.size #[.int .i64 7, .int .u64 num, .int .i64 node, .string (⟨#[]⟩ : ByteArray), .bool false, .string (⟨#[]⟩ : ByteArray), .int .u64 0, .slice na 0 nc, .slice ra 0 rc, .slice ga 0 gc, .slice oa 0 oc, .slice da 0 dc] 31) (fun _ _ => 0)
    case atStart => exact ⟨rfl, HY.out, HB.out⟩
    case round =>
      obtain ⟨rfl, hy, hb⟩ := hrel
      clear HY HB
      have HY : Hid (Below w.heap.size w wr) := hy
      have HB : Hid (Blk wr w.heap.size #[.int .i64 7, .int .u64 num, .int .i64 node, .string (⟨#[]⟩ : ByteArray), .bool false, .string (⟨#[]⟩ : ByteArray), .int .u64 0, .slice na 0 nc, .slice ra 0 rc, .slice ga 0 gc, .slice oa 0 oc, .slice da 0 dc] 31) := hb
      clear hy hb
      rename World => wb
      have z0 : wb.cell? ⟨w.heap.size, 0, none⟩ = some (.int .i64 7) := HB.out.cell 0
      have z1 : wb.cell? ⟨w.heap.size, 1, none⟩ = some (.int .u64 num) := HB.out.cell 1
      have z2 : wb.cell? ⟨w.heap.size, 2, none⟩ = some (.int .i64 node) := HB.out.cell 2
      have z3 : wb.cell? ⟨w.heap.size, 3, none⟩ = some (.string (⟨#[]⟩ : ByteArray)) := HB.out.cell 3
      have z4 : wb.cell? ⟨w.heap.size, 4, none⟩ = some (.bool false) := HB.out.cell 4
      have z5 : wb.cell? ⟨w.heap.size, 5, none⟩ = some (.string (⟨#[]⟩ : ByteArray)) := HB.out.cell 5
      have z6 : wb.cell? ⟨w.heap.size, 6, none⟩ = some (.int .u64 0) := HB.out.cell 6
      have z7 : wb.cell? ⟨w.heap.size, 7, none⟩ = some (.slice na 0 nc) := HB.out.cell 7
      have z8 : wb.cell? ⟨w.heap.size, 8, none⟩ = some (.slice ra 0 rc) := HB.out.cell 8
      have z9 : wb.cell? ⟨w.heap.size, 9, none⟩ = some (.slice ga 0 gc) := HB.out.cell 9
      have z10 : wb.cell? ⟨w.heap.size, 10, none⟩ = some (.slice oa 0 oc) := HB.out.cell 10
      have z11 : wb.cell? ⟨w.heap.size, 11, none⟩ = some (.slice da 0 dc) := HB.out.cell 11
      go_wp2
      clear z0 z1 z2 z3 z4 z5 z6 z7 z8 z9 z10 z11
      go_loopw [250] (fun i wr => i = .int .i64 0 ∧ Below w.heap.size w wr ∧ Blk wr w.heap.size #[.int .i64 7, .int .u64 num, .int .i64 node, .string (⟨#[]⟩ : ByteArray), .bool false, .string (⟨#[]⟩ : ByteArray), .int .u64 0, .slice na 0 nc, .slice ra 0 rc, .slice ga 0 gc, .slice oa 0 oc, .slice da 0 dc] 31) (fun _ _ => 0)
      case atStart => exact ⟨rfl, HY.out, HB.out⟩
      case round =>
        obtain ⟨rfl, hy, hb⟩ := hrel
        clear HY HB
        have HY : Hid (Below w.heap.size w wr) := hy
        have HB : Hid (Blk wr w.heap.size #[.int .i64 7, .int .u64 num, .int .i64 node, .string (⟨#[]⟩ : ByteArray), .bool false, .string (⟨#[]⟩ : ByteArray), .int .u64 0, .slice na 0 nc, .slice ra 0 rc, .slice ga 0 gc, .slice oa 0 oc, .slice da 0 dc] 31) := hb
        clear hy hb
        rename World => wc
        go_wp2
        go_ret
        exact ⟨rfl, HY.out⟩
end Go.Proofs.YthkmohcdgnldgaaGreat

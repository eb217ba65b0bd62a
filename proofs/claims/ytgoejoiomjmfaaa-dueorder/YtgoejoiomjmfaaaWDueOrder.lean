/- DueOrder: the walk of the law's Go text. -/
import Derived.Test.YtgoejoiomjmfaaaDue20
namespace Go.Proofs.Ytgoejoiomjmfaaa
open Go.ChangeShapes Go.WideShapes Go.ChangeAt Go.RowKit
open Go.Maps (IsMap Tidy has size)

/-- While all are taken. -/
structure TakeAt (w : World) (B mb bp : Nat) (wr : World) (g N n0 j n : Nat) (T0 T : Key → Option Int) (D : DataW Unit) (p : Ent) : Prop where
  q : QS (fun i => (B ≤ i ∧ i ≠ mb) ∧ i ≠ bp) wr g N n T
  m : owns wr mb N D
  d : MapT D n0 T0
  cnt : j + n = n0
  sub : ∀ q a, T q = some a → T0 q = some a
  blk : Blk wr bp (eC p) 34
  ord : 0 < j → ∀ q a, T q = some a → lessE p (entOf q a) = true
  bel : Below w.heap.size w wr
  le : w.heap.size ≤ B
  lb : B ≤ mb
  lp : B ≤ bp
  wa : ∀ q a, T0 q = some a → (Lit.int .i64 a).wf = true

theorem order_new {w w1 w2 : World} {g : Nat} (hb1 : Below w.heap.size w w1) (hq : QS (fun k => w1.heap.size ≤ k) w2 g 0 0 (fun _ => none)) (hb2 : Below w1.heap.size w1 w2) : OrderAt w w1.heap.size w2.heap.size (w2.alloc (.map #[] 0)) g 0 0 (fun _ => none) (.map []) := by
  refine ⟨(hq.cut.mono (Nat.le_refl _) (fun k _ h => ⟨h.1, by omega⟩)).below ((Below.refl _ _).alloc (Nat.le_refl _) _), World.ownsMap_made w2 _ _ _, MapT.nil, (bel_trans hb1 hb2).alloc (bel_trans hb1 hb2).size _, hb1.size, hb2.size, fun q a h => (by cases h)⟩

/-- Between the law's store and the queue's. -/
structure OrderMid (w : World) (B mb : Nat) (wr : World) (g N n : Nat) (T : Key → Option Int) (e0 : Ent) (be : Nat) (D : DataW Unit) : Prop where
  q : QS (fun j => B ≤ j ∧ j ≠ mb) wr g N n T
  m : owns wr mb (N + 1) D
  d : MapT D (if (T e0.key).isSome then n else n + 1) (putT T e0.key e0.at_)
  blk : Blk wr be (eC e0) 34
  bel : Below w.heap.size w wr
  le : w.heap.size ≤ B
  lb : B ≤ mb
theorem OrderMid.of {w : World} {B mb s0 : Nat} {wr w6 : World} {g N n : Nat} {T : Key → Option Int} {e0 : Ent} {be : Nat} {D0 D : DataW Unit} {left : Lit → Bool} {cnt : Nat} (h : InnerAt w B mb s0 wr g N n T e0 be D0 D left cnt) (h0 : MapT D0 n T) (hw : e0.wf) (hT : ∀ q a, T q = some a → (Lit.int .i64 a).wf = true) (hl : ∀ kl, left kl = false)
    (hm : w6.ownsMap Try.prog 34 boolElem mb (N + 1) (D.put (kle e0) (.lit (.bool true)))) (hg : wr.grownBy w6 (some mb)) : OrderMid w B mb w6 g N n T e0 be (D.put (kle e0) (.lit (.bool true))) := by
  have hc : Chg (fun k => k = mb) wr w6 := chg_of_grown hg (fun k e _ => by cases e; rfl)
  refine ⟨(h.q.chg hc (fun k hk e => hk.1.2 e)).mono (Nat.le_refl _) (fun k _ hk => hk.1), hm, h.ends h0 hw hT hl, h.blk.chg hc h.hb.2, h.bel.trans (hc.below h.bel.size (fun k e => ?_)), h.le, h.lb⟩
  have := h.le
  have := h.lb
  have : k = mb := e
  omega
theorem OrderMid.set {w : World} {B mb : Nat} {wr w7 : World} {g N n : Nat} {T : Key → Option Int} {e0 : Ent} {be : Nat} {D : DataW Unit} (h : OrderMid w B mb wr g N n T e0 be D) (hw : e0.wf) (hT : ∀ q a, T q = some a → (Lit.int .i64 a).wf = true)
    (hq : QS (fun k => (B ≤ k ∧ k ≠ mb) ∨ wr.heap.size ≤ k) w7 g (N + 1) (if (T e0.key).isSome then n else n + 1) (putT T e0.key e0.at_)) (hc : Chg (fun j => B ≤ j ∧ j ≠ mb) wr w7) : OrderAt w B mb w7 g (N + 1) (if (T e0.key).isSome then n else n + 1) (putT T e0.key e0.at_) D := by
  have hlt := World.ownsMap.lt h.m
  have hs := h.lb
  refine ⟨hq.mono (Nat.le_refl _) (fun k _ hk => ?_), h.m.chg hc (fun e => e.2 rfl), h.d, h.bel.trans (hc.below h.bel.size (fun k hk => Nat.le_trans h.le hk.1)), h.le, h.lb, fun q a hq => ?_⟩
  · rcases hk with x | x
    · exact x
    · exact ⟨by omega, by omega⟩
  · unfold putT at hq
    split at hq
    · cases hq
      exact hw.1
    · exact hT q a hq

theorem owns.ask {w : World} {mb N n : Nat} {D : DataW Unit} {T : Key → Option Int} (h : owns w mb N D) (hd : MapT D n T) (e : Ent) (hw : e.wf) (ht : T e.key = some e.at_) : (Instr.lookup 44 (.map (some mb)) (.agg #[.int .i64 e.at_, .int .i64 e.kind, .int .u64 e.num, .int .i64 e.node]) false).run Try.prog w = .ok (.bool true) w := by
  obtain ⟨v, ps, hrun, hv⟩ := World.ownsMap.lookup h entLaw Try.underlying44 (z := .bool false) (zd := .lit (.bool false)) (zp := []) (by kernel_rfl) rfl (keyOf_ent e hw)
  rw [hd.at_ e hw ht] at hv
  obtain ⟨b, rfl, hb⟩ := boolElem_inv hv
  simp only [Prod.mk.injEq, DataW.lit.injEq, Lit.bool.injEq] at hb
  rw [← hb.1] at hrun
  exact hrun

section
variable {w : World} {B mb bp : Nat} {wr : World} {g N n0 j n : Nat} {T0 T : Key → Option Int} {D : DataW Unit} {p : Ent}
theorem TakeAt.start (h : OrderAt w B mb wr g N n T D) (hB : B ≤ wr.heap.size) : TakeAt w B mb wr.heap.size (wr.alloc (.cells #[.int .i64 0, .int .i64 0, .int .u64 0, .int .i64 0] 34)) g N n 0 n T T D noEnt := by
  have h1 := h.more (.cells #[.int .i64 0, .int .i64 0, .int .u64 0, .int .i64 0] 34)
  exact ⟨(h.q.cut.mono (Nat.le_refl _) (fun k _ hk => ⟨hk.1, by omega⟩)).below ((Below.refl _ _).alloc (Nat.le_refl _) _), h1.m, h.d, by omega, fun _ _ e => e, Blk.new wr _ _, fun e => by omega, h1.bel, h.le, h.lb, hB, h.wa⟩
theorem TakeAt.nought (h : TakeAt w B mb bp wr g N n0 j n T0 T D p) (hT : ∀ q a, T q = some a → 9223372036854775807 < a) : n = 0 := by
  rcases Nat.eq_zero_or_pos n with e | e
  · exact e
  · obtain ⟨q, a, ha⟩ := h.q.all e
    have h1 := hT q a ha
    have h2 := h.wa q a (h.sub q a ha)
    have h3 := bounds_i64 h2
    omega
theorem TakeAt.wf (h : TakeAt w B mb bp wr g N n0 j n T0 T D p) {e : Ent} (ht : T e.key = some e.at_) : e.wf ∧ T0 e.key = some e.at_ := ⟨⟨h.wa _ _ (h.sub _ _ ht), h.q.wf ht⟩, h.sub _ _ ht⟩
/-- One was taken. -/
theorem TakeAt.mid {w4 w6 : World} {m : Nat} {e : Ent} (h : TakeAt w B mb bp wr g N n0 j n T0 T D p) (hn : n = m + 1) (hm : ∀ q a, T q = some a → lessE (entOf q a) e = false) (hq : QS (fun i => (B ≤ i ∧ i ≠ mb) ∧ i ≠ bp) w4 g N m (delT T e.key)) (hc : Chg (fun i => (B ≤ i ∧ i ≠ mb) ∧ i ≠ bp) wr w4) (hb : Below w4.heap.size w4 w6) :
    owns w6 mb N D ∧ Blk w6 bp (eC p) 34 ∧ TakeAt w B mb bp ((((w6.setCell ⟨bp, 0, none⟩ (.int .i64 e.at_)).setCell ⟨bp, 1, none⟩ (.int .i64 e.kind)).setCell ⟨bp, 2, none⟩ (.int .u64 e.num)).setCell ⟨bp, 3, none⟩ (.int .i64 e.node)) g N n0 (j + 1) m T0 (delT T e.key) D e := by
  have h4 := h.m.chg hc (fun x => x.1.2 rfl)
  have b4 := h.blk.chg hc (fun x => x.2 rfl)
  have h6 := h4.chg (S := fun _ => False) (chg_of_below hb) (fun x => x)
  have b6 := b4.bel hb
  have hmb : mb ≠ bp := fun x => by
    subst x
    obtain ⟨es, c, hh, _⟩ := h6
    unfold Blk at b6
    rw [b6] at hh
    cases hh
  have hb4 := (((b6.set 0 (.int .i64 e.at_)).set 1 (.int .i64 e.kind)).set 2 (.int .u64 e.num)).set 3 (.int .i64 e.node)
  have hc4 : Chg (fun k => k = bp) w6 ((((w6.setCell ⟨bp, 0, none⟩ (.int .i64 e.at_)).setCell ⟨bp, 1, none⟩ (.int .i64 e.kind)).setCell ⟨bp, 2, none⟩ (.int .u64 e.num)).setCell ⟨bp, 3, none⟩ (.int .i64 e.node)) :=
    ((((Chg.refl (fun k => k = bp) w6).setCell ⟨bp, 0, none⟩ (fun _ => rfl) _).setCell ⟨bp, 1, none⟩ (fun _ => rfl) _).setCell ⟨bp, 2, none⟩ (fun _ => rfl) _).setCell ⟨bp, 3, none⟩ (fun _ => rfl) _
  have bel4 : Below w.heap.size w w4 := h.bel.trans (hc.below h.bel.size (fun k hk => Nat.le_trans h.le hk.1.1))
  have bel6 : Below w.heap.size w w6 := bel_trans bel4 hb
  refine ⟨h6, b6, ⟨(hq.below hb).chg hc4 (fun k hk x => hk.2 x), h6.chg hc4 hmb, h.d, by have := h.cnt; omega, fun q a hh => ?_, by simpa [eC] using hb4, fun _ q a hh => ?_, bel6.trans (hc4.below bel6.size (fun k hk => by have := h.le; have := h.lp; have : k = bp := hk; omega)), h.le, h.lb, h.lp, h.wa⟩⟩
  · unfold delT at hh
    split at hh
    · cases hh
    · exact h.sub q a hh
  · unfold delT at hh
    split at hh
    · cases hh
    · rename_i hk
      have h1 := hm q a hh
      cases hl : lessE e (entOf q a) with
      | true => rfl
      | false =>
        have := lessE_total hl h1
        exact absurd (by rw [this]; rfl) hk
end

set_option maxRecDepth 10000 in
set_option maxHeartbeats 4000000 in
theorem walk_DueOrder (oa : Option Addr) (no co : Nat) (es : List Ent) (w : World) (ho : IsEnts w oa no es) :
    Calls Try.prog 4 #[.slice oa no co] w fun e w' => e = .returned (.bool true) ∧ Below w.heap.size w w' := by
  obtain ⟨ho1, ho2, ho3, ho4⟩ := ho
  have HO1 : Hid (es.length = no) := ho1
  have HO4 : Hid (∀ x, oa = some x → ∀ i (h : i < es.length), EntAt w x i es[i]) := ho4
  unfold maxLen at ho2
  clear ho1 ho4
  have hmm := @run_makeMap Try.prog
  go_enter Try.func4, Try.ntmps4
  go_wp2_with fail
  refine (head_any _).mono ?_
  rintro e w1 ⟨rfl, hb1⟩
  have HB1 : Hid (Below w.heap.size w w1) := hb1
  clear hb1
  by_cases h60 : 60 < no
  · have hd : decide (60 < (no : Int)) = true := decide_eq_true (by omega)
    go_wp2_with fail
    go_ret
    exact ⟨rfl, HB1.out⟩
  have hd : decide (60 < (no : Int)) = false := decide_eq_false (by omega)
  go_wp2_with fail
  refine (qs_new w1).mono ?_
  rintro e w2 ⟨g, rfl, hq2, hb2⟩
  have HT2 : Hid (OrderAt w w1.heap.size w2.heap.size (w2.alloc (.map #[] 0)) g 0 0 (fun _ => none) (.map [])) := order_new HB1.out hq2 hb2
  clear hq2 hb2 hd
  unfold iptr
  go_wp2_with fail
  generalize hmb : w2.heap.size = mb at *
  clear hmb
  go_loopw [21] (fun vi wr => ∃ (k n : Nat) (T : Key → Option Int) (D : DataW Unit), vi = .int .i64 (k : Int) ∧ k ≤ no ∧ n ≤ k ∧ OrderAt w w1.heap.size mb wr g k n T D) (fun vi _ => no - (intOf vi).toNat)
  case atStart => exact ⟨0, 0, _, _, rfl, by omega, by omega, HT2.out⟩
  case round =>
    clear HT2
    obtain ⟨k, n, T, D, rfl, hk, hnk, hT⟩ := hrel
    have HT : Hid (OrderAt w w1.heap.size mb wr g k n T D) := hT
    clear hT
    by_cases hlt : k < no
    · have hd1 : decide ((k : Int) < (no : Int)) = true := decide_eq_true (by omega)
      obtain ⟨x, rfl⟩ : ∃ x, oa = some x := by
        cases oa with
        | none => have := ho3 rfl; omega
        | some x => exact ⟨x, rfl⟩
      have hop0 := HO4.out x rfl k (by rw [HO1.out]; exact hlt)
      generalize es[k]'(by rw [HO1.out]; exact hlt) = o at hop0
      have hop := hop0.below HT.out.bel
      have HW : Hid (o.wf) := ⟨hop0.wa, hop0.wk⟩
      have e0 : wr.cell? (x.add (k * 4)) = some (.int .i64 o.at_) := hop.c0
      have e1 : wr.cell? ⟨(x.add (k * 4)).block, (x.add (k * 4)).off + 1, none⟩ = some (.int .i64 o.kind) := cell_on (by omega) hop.c1
      have e2 : wr.cell? ⟨(x.add (k * 4)).block, (x.add (k * 4)).off + 2, none⟩ = some (.int .u64 o.num) := cell_on (by omega) hop.c2
      have e3 : wr.cell? ⟨(x.add (k * 4)).block, (x.add (k * 4)).off + 3, none⟩ = some (.int .i64 o.node) := cell_on (by omega) hop.c3
      have HT3 : Hid (OrderAt w w1.heap.size mb (wr.alloc (.cells #[.int .i64 o.at_, .int .i64 o.kind, .int .u64 o.num, .int .i64 o.node] 34)) g k n T D) := HT.out.more _
      clear hop hop0
      go_wp2_with (first | (at_range; refine wpList_range_own _ rfl _ 44 rfl 34 4 entLaw Try.underlying44 boolElem mb k D rfl HT3.out.m ?_))
      intro w5 hrg5 hg5 hs5
      have HI5 : Hid (InnerAt w w1.heap.size mb (wr.heap.size + 1) w5 g k n T o wr.heap.size D D (has D) (size D)) := InnerAt.start HT3.out HW.out (Blk.new wr _ _) (by simp) hrg5 hg5
      have HD : Hid (MapT D n T ∧ ∀ q a, T q = some a → (Lit.int .i64 a).wf = true) := ⟨HT.out.d, HT.out.wa⟩
      clear hrg5 hg5 hs5 e0 e1 e2 e3 HT3 HT hd1
      generalize wr.heap.size = be at *
      go_wp2_with fail
      go_loopw [] (fun wr => ∃ (D1 : DataW Unit) (left : Lit → Bool) (cnt : Nat), InnerAt w w1.heap.size mb (be + 1) wr g k n T o be D D1 left cnt) (fun wr => wr.rangeLeft mb (be + 1))
      case atStart => exact ⟨_, _, _, HI5.out⟩
      case round =>
        clear HI5
        obtain ⟨D1, left, cnt, hI⟩ := hrel
        have HI : Hid (InnerAt w w1.heap.size mb (be + 1) wr g k n T o be D D1 left cnt) := hI
        clear hI
        go_wp2_with (first | (at_next; refine wpList_next_ent _ rfl _ rfl mb (be + 1) k D1 left cnt rfl HI.out.rg ?_ ?_))
        · intro hl0
          have HL0 : Hid (∀ kl, left kl = false) := hl0
          clear hl0
          have b0 : wr.cell? ⟨be, 0, none⟩ = some (.int .i64 o.at_) := HI.out.blk.cell 0
          have b1 : wr.cell? ⟨be, 1, none⟩ = some (.int .i64 o.kind) := HI.out.blk.cell 1
          have b2 : wr.cell? ⟨be, 2, none⟩ = some (.int .u64 o.num) := HI.out.blk.cell 2
          have b3 : wr.cell? ⟨be, 3, none⟩ = some (.int .i64 o.node) := HI.out.blk.cell 3
          go_wp2_with (first | (at_mapUpdate; refine wpList_mapUpdate_own _ rfl _ _ _ 44 rfl 34 4 entLaw Try.underlying44 boolElem mb k D1 rfl HI.out.rg.owns (by unfold maxLen; omega) (eV o) (.bool true) (kle o) rfl rfl (keyOf_ent o HW.out) (.lit (.bool true)) [] rfl ?_))
          intro w6 hm6 hg6
          have HT6 : Hid (OrderMid w w1.heap.size mb w6 g k n T o be (D1.put (kle o) (.lit (.bool true)))) := OrderMid.of HI.out HD.out.1 HW.out HD.out.2 HL0.out hm6 hg6
          clear hm6 hg6 HI HL0 b0 b1 b2 b3
          have b0 : w6.cell? ⟨be, 0, none⟩ = some (.int .i64 o.at_) := HT6.out.blk.cell 0
          have b1 : w6.cell? ⟨be, 1, none⟩ = some (.int .i64 o.kind) := HT6.out.blk.cell 1
          have b2 : w6.cell? ⟨be, 2, none⟩ = some (.int .u64 o.num) := HT6.out.blk.cell 2
          have b3 : w6.cell? ⟨be, 3, none⟩ = some (.int .i64 o.node) := HT6.out.blk.cell 3
          have HS : Hid (Calls _ _ _ _ _) := qs_set HT6.out.q o HW.out.2 (by omega) (by omega)
          unfold iptr at *
          go_wp2_with fail
          refine Calls.mono HS.out ?_
          rintro e w7 ⟨rfl, hq7, hc7⟩
          have HT7 : Hid (OrderAt w w1.heap.size mb w7 g (k + 1) _ _ _) := HT6.out.set HW.out HD.out.2 hq7 hc7
          clear hq7 hc7 HS b0 b1 b2 b3 HT6
          go_wp2_with fail
          go_roundw
          case rel => exact ⟨k + 1, _, _, _, by go_num, by omega, by split <;> omega, HT7.out⟩
          case measure => simp [intOf]; omega
        · intro x c w6 cnt6 hcame
          have HX : Hid (x.wf ∧ left (kle x) = true) := ⟨hcame.wf, hcame.lk⟩
          have HG6 : Hid (wr.grownBy w6 (some (be + 1))) := hcame.gr
          have HR6 : Hid (w6.ranges Try.prog 34 boolElem mb (be + 1) k D1 (fun z => left z && !z.sameKey (kle x)) cnt6) := hcame.rg
          have HQ6 : Hid (_ ∧ _) := HI.out.next hcame.gr
          have HC6 : Hid (cnt6 < cnt) := hcame.lt
          have hen := hcame.en
          have b0 : (w6.alloc (.cells #[.int .i64 x.at_, .int .i64 x.kind, .int .u64 x.num, .int .i64 x.node] 34)).cell? ⟨be, 0, none⟩ = some (.int .i64 o.at_) := (HQ6.out.2.1.alloc _).cell 0
          have b1 : (w6.alloc (.cells #[.int .i64 x.at_, .int .i64 x.kind, .int .u64 x.num, .int .i64 x.node] 34)).cell? ⟨be, 1, none⟩ = some (.int .i64 o.kind) := (HQ6.out.2.1.alloc _).cell 1
          have b2 : (w6.alloc (.cells #[.int .i64 x.at_, .int .i64 x.kind, .int .u64 x.num, .int .i64 x.node] 34)).cell? ⟨be, 2, none⟩ = some (.int .u64 o.num) := (HQ6.out.2.1.alloc _).cell 2
          have b3 : (w6.alloc (.cells #[.int .i64 x.at_, .int .i64 x.kind, .int .u64 x.num, .int .i64 x.node] 34)).cell? ⟨be, 3, none⟩ = some (.int .i64 o.node) := (HQ6.out.2.1.alloc _).cell 3
          clear hcame
          unfold eV at *
          by_cases hkx : x.key = o.key
          · have hk3 : x.kind = o.kind ∧ x.num = o.num ∧ x.node = o.node := by
              unfold Ent.key at hkx
              simpa using hkx
            have HK : Hid (x.key = o.key) := hkx
            have HRA : Hid ((w6.alloc (.cells #[.int .i64 x.at_, .int .i64 x.kind, .int .u64 x.num, .int .i64 x.node] 34)).ranges Try.prog 34 boolElem mb (be + 1) k D1 (fun z => left z && !z.sameKey (kle x)) cnt6) := HR6.out.alloc _
            clear hkx
            rw [← hk3.1] at b1
            rw [← hk3.2.1] at b2
            rw [← hk3.2.2] at b3
            clear hk3
            go_wp2_with (first | (at_delete; refine wpList_delete_ranges _ rfl _ _ 44 34 rfl 4 entLaw Try.underlying44 boolElem mb (be + 1) k D1 _ cnt6 rfl HRA.out (eV x) (kle x) rfl (keyOf_ent x HX.out.1) ?_))
            intro w8 cnt8 hrg8 hle8 ht8
            have HI8 : Hid (InnerAt w w1.heap.size mb (be + 1) w8 g k n T o be D _ _ cnt8) := HI.out.gone HD.out.1 HX.out.1 HK.out HX.out.2 HQ6.out _ rfl hrg8 ht8
            have HC8 : Hid (cnt8 ≤ cnt6) := hle8
            clear hrg8 hle8 ht8 b0 b1 b2 b3 HRA
            go_wp2_with fail
            go_roundw
            case rel => exact ⟨_, _, _, HI8.out⟩
            case measure =>
              rw [HI8.out.rg.left_eq, HI.out.rg.left_eq]
              have := HC8.out
              have := HC6.out
              omega
          · have HI6 : Hid (InnerAt w w1.heap.size mb (be + 1) (w6.alloc (.cells #[.int .i64 x.at_, .int .i64 x.kind, .int .u64 x.num, .int .i64 x.node] 34)) g k n T o be D D1 _ cnt6) := (HI.out.pass HW.out HD.out.2 HX.out.1 hkx HR6.out HG6.out).more _
            by_cases h1 : x.kind = o.kind
            · rw [← h1] at b1
              by_cases h2 : x.num = o.num
              · rw [← h2] at b2
                have h3 : ¬ x.node = o.node := fun h => hkx (by unfold Ent.key; rw [h1, h2, h])
                clear hkx h1 h2
                go_wp2_with fail
                go_roundw
                case rel => exact ⟨_, _, _, HI6.out⟩
                case measure =>
                  rw [HI6.out.rg.left_eq, HI.out.rg.left_eq]
                  exact HC6.out
              · clear hkx h1
                go_wp2_with fail
                go_roundw
                case rel => exact ⟨_, _, _, HI6.out⟩
                case measure =>
                  rw [HI6.out.rg.left_eq, HI.out.rg.left_eq]
                  exact HC6.out
            · have hd2 : (x.kind == o.kind) = false := beq_eq_false_iff_ne.2 h1
              clear hkx h1
              go_wp2_with fail
              go_roundw
              case rel => exact ⟨_, _, _, HI6.out⟩
              case measure =>
                rw [HI6.out.rg.left_eq, HI.out.rg.left_eq]
                exact HC6.out
    · obtain rfl : k = no := by omega
      have hd1 : decide ((k : Int) < (k : Int)) = false := decide_eq_false (by omega)
      have HT3 : Hid (TakeAt w w1.heap.size mb wr.heap.size (wr.alloc (.cells #[.int .i64 0, .int .i64 0, .int .u64 0, .int .i64 0] 34)) g k n 0 n T T D noEnt) := TakeAt.start HT.out (Nat.le_trans HT.out.lb (Nat.le_of_lt HT.out.lt))
      clear HT
      go_wp2_with fail
      generalize wr.heap.size = bp at *
      go_loopw [8] (fun vi wr => ∃ (j m : Nat) (T1 : Key → Option Int) (p : Ent), vi = .int .i64 (j : Int) ∧ TakeAt w w1.heap.size mb bp wr g k n j m T T1 D p) (fun vi _ => n - (intOf vi).toNat)
      case atStart => exact ⟨0, n, _, _, rfl, HT3.out⟩
      case round =>
        clear HT3 hd1
        obtain ⟨j, m, T1, p, rfl, hT⟩ := hrel
        have HT : Hid (TakeAt w w1.heap.size mb bp wr g k n j m T T1 D p) := hT
        have hjm := hT.cnt
        have HX : Hid (Calls _ _ _ _ _) := qs_next hT.q 9223372036854775807 (by omega)
        clear hT
        unfold iptr at *
        go_wp2_with fail
        refine Calls.mono HX.out ?_
        rintro r w4 hN
        clear HX
        rcases hN with ⟨hr, hTn, hq4, hb4⟩ | ⟨e, m', hr, hn, ht, ha, hm, hq4, hc4⟩
        · skip
          subst hr
          obtain rfl : m = 0 := HT.out.nought hTn
          have hbA : Below wr.heap.size wr (w4.alloc (.cells #[.int .i64 0, .int .i64 0, .int .u64 0, .int .i64 0] 34)) := hb4.alloc hb4.size _
          have HM : Hid (owns (w4.alloc (.cells #[.int .i64 0, .int .i64 0, .int .u64 0, .int .i64 0] 34)) mb k D) := HT.out.m.chg (S := fun _ => False) (chg_of_below hbA) (fun x => x)
          have HL : Hid (Calls _ _ _ _ _) := qs_len (HT.out.q.below hbA)
          have HB : Hid (Below w.heap.size w (w4.alloc (.cells #[.int .i64 0, .int .i64 0, .int .u64 0, .int .i64 0] 34))) := bel_trans HT.out.bel hbA
          have hsz := HT.out.d.size
          have hjn : ((j : Int) == ((size D : Nat) : Int)) = true := by rw [hsz]; simp; omega
          clear hTn hq4 hb4 hbA HT
          rw [show entV noEnt = .agg #[.int .i64 0, .int .i64 0, .int .u64 0, .int .i64 0] from rfl]
          unfold iptr at *
          go_wp2_with (first | (at_len; refine wpList_len_own _ rfl _ 44 rfl 34 4 Try.underlying44 boolElem mb k D rfl HM.out ?_))
          go_wp2_with fail
          refine Calls.mono HL.out ?_
          rintro e w' ⟨rfl, hw⟩; rw [hw]; clear hw w' HL
          go_wp2_with fail
          go_ret
          exact ⟨rfl, HB.out⟩
        · skip
          subst hr
          obtain ⟨hew, het⟩ := HT.out.wf ht
          have hb5 : Below w4.heap.size w4 (w4.alloc (.cells #[.int .i64 e.at_, .int .i64 e.kind, .int .u64 e.num, .int .i64 e.node] 34)) := (Below.refl _ _).alloc (Nat.le_refl _) _
          obtain ⟨m5, k5, t5⟩ := HT.out.mid hn hm hq4 hc4 hb5
          have hlk := m5.ask HT.out.d e hew het
          have r0 : (w4.alloc (.cells #[.int .i64 e.at_, .int .i64 e.kind, .int .u64 e.num, .int .i64 e.node] 34)).cell? ⟨w4.heap.size, 0, none⟩ = some (.int .i64 e.at_) := (Blk.new w4 _ _).cell 0
          have r1 : (w4.alloc (.cells #[.int .i64 e.at_, .int .i64 e.kind, .int .u64 e.num, .int .i64 e.node] 34)).cell? ⟨w4.heap.size, 1, none⟩ = some (.int .i64 e.kind) := (Blk.new w4 _ _).cell 1
          have r2 : (w4.alloc (.cells #[.int .i64 e.at_, .int .i64 e.kind, .int .u64 e.num, .int .i64 e.node] 34)).cell? ⟨w4.heap.size, 2, none⟩ = some (.int .u64 e.num) := (Blk.new w4 _ _).cell 2
          have r3 : (w4.alloc (.cells #[.int .i64 e.at_, .int .i64 e.kind, .int .u64 e.num, .int .i64 e.node] 34)).cell? ⟨w4.heap.size, 3, none⟩ = some (.int .i64 e.node) := (Blk.new w4 _ _).cell 3
          have p0 : (w4.alloc (.cells #[.int .i64 e.at_, .int .i64 e.kind, .int .u64 e.num, .int .i64 e.node] 34)).cell? ⟨bp, 0, none⟩ = some (.int .i64 p.at_) := k5.cell 0
          have p1 : (w4.alloc (.cells #[.int .i64 e.at_, .int .i64 e.kind, .int .u64 e.num, .int .i64 e.node] 34)).cell? ⟨bp, 1, none⟩ = some (.int .i64 p.kind) := k5.cell 1
          have p2 : (w4.alloc (.cells #[.int .i64 e.at_, .int .i64 e.kind, .int .u64 e.num, .int .i64 e.node] 34)).cell? ⟨bp, 2, none⟩ = some (.int .u64 p.num) := k5.cell 2
          have p3 : (w4.alloc (.cells #[.int .i64 e.at_, .int .i64 e.kind, .int .u64 e.num, .int .i64 e.node] 34)).cell? ⟨bp, 3, none⟩ = some (.int .i64 p.node) := k5.cell 3
          have f0 := k5.frozen 0
          have f1 := k5.frozen 1
          have f2 := k5.frozen 2
          have f3 := k5.frozen 3
          have hle : decide ((k : Int) < (j : Int) + 1) = false := decide_eq_false (by omega)
          have HT5 : Hid (TakeAt w w1.heap.size mb bp _ g k n (j + 1) m' T _ D e) := t5
          rw [show entV e = .agg #[.int .i64 e.at_, .int .i64 e.kind, .int .u64 e.num, .int .i64 e.node] from rfl]
          have hjn : j < n := by omega
          by_cases hj : j = 0
          · subst hj
            clear hew het hb5 m5 k5 t5 hn ht ha hm hq4 hc4
            go_wp2_with fail
            go_roundw
            case rel => exact ⟨1, m', _, _, by go_num, HT5.out⟩
            case measure => simp [intOf]; omega
          · have hj0 : decide ((0 : Int) < (j : Int)) = true := decide_eq_true (by omega)
            have hls := HT.out.ord (by omega) _ _ ht
            have HLS : Hid (Calls _ _ _ _ _) := less_any p e (w4.alloc (.cells #[.int .i64 e.at_, .int .i64 e.kind, .int .u64 e.num, .int .i64 e.node] 34))
            have HMid : Hid (∀ w6, Below w4.heap.size w4 w6 → _ ∧ _ ∧ _) := fun w6 hb => HT.out.mid hn hm hq4 hc4 hb
            have HLs : Hid (lessE p e = true) := hls
            have HB5 : Hid (Below w4.heap.size w4 (w4.alloc (.cells #[.int .i64 e.at_, .int .i64 e.kind, .int .u64 e.num, .int .i64 e.node] 34))) := hb5
            clear hew het hb5 m5 k5 t5 hn ht ha hm hq4 hc4 f0 f1 f2 f3 HT5 hls
            unfold entV at HLS
            go_wp2_with fail
            refine Calls.mono HLS.out ?_
            rintro r w6 ⟨rfl, hb6⟩
            rw [HLs.out]
            have hb46 : Below w4.heap.size w4 w6 := bel_trans HB5.out hb6
            obtain ⟨m6, k6, t6⟩ := HMid.out w6 hb46
            have R6 := (Blk.new w4 #[.int .i64 e.at_, .int .i64 e.kind, .int .u64 e.num, .int .i64 e.node] 34).bel hb6
            have HT5 : Hid (TakeAt w w1.heap.size mb bp _ g k n (j + 1) m' T _ D e) := t6
            clear r0 r1 r2 r3 p0 p1 p2 p3 hlk
            have r0 : w6.cell? ⟨w4.heap.size, 0, none⟩ = some (.int .i64 e.at_) := R6.cell 0
            have r1 : w6.cell? ⟨w4.heap.size, 1, none⟩ = some (.int .i64 e.kind) := R6.cell 1
            have r2 : w6.cell? ⟨w4.heap.size, 2, none⟩ = some (.int .u64 e.num) := R6.cell 2
            have r3 : w6.cell? ⟨w4.heap.size, 3, none⟩ = some (.int .i64 e.node) := R6.cell 3
            have p0 : w6.cell? ⟨bp, 0, none⟩ = some (.int .i64 p.at_) := k6.cell 0
            have p1 : w6.cell? ⟨bp, 1, none⟩ = some (.int .i64 p.kind) := k6.cell 1
            have p2 : w6.cell? ⟨bp, 2, none⟩ = some (.int .u64 p.num) := k6.cell 2
            have p3 : w6.cell? ⟨bp, 3, none⟩ = some (.int .i64 p.node) := k6.cell 3
            have f0 := k6.frozen 0
            have f1 := k6.frozen 1
            have f2 := k6.frozen 2
            have f3 := k6.frozen 3
            clear hb6 hb46 m6 k6 t6 R6 HMid HLS HB5
            go_wp2_with fail
            go_roundw
            case rel => exact ⟨j + 1, m', _, _, by go_num, HT5.out⟩
            case measure => simp [intOf]; omega
end Go.Proofs.Ytgoejoiomjmfaaa

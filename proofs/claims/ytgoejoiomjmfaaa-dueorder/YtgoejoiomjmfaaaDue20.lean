/- The law's order; what the loops of DueOrder keep. Own lemmas, no statement. -/
import Derived.Test.YtgoejoiomjmfaaaDue19
namespace Go.Proofs.Ytgoejoiomjmfaaa
open Go.ChangeShapes Go.WideShapes Go.ChangeAt Go.RowKit
open Go.Maps (IsMap Tidy has size)

set_option maxHeartbeats 800000 in
theorem less_any (e o : Ent) (w : World) :
    Calls Try.prog 13 #[entV e, entV o] w fun x w' => x = .returned (.bool (lessE e o)) ∧ Below w.heap.size w w' := by
  obtain ⟨a1, k1, x1, y1⟩ := e
  obtain ⟨a2, k2, x2, y2⟩ := o
  unfold entV
  simp only
  by_cases ha : a1 = a2
  · subst ha
    by_cases hk : k1 = k2
    · subst hk
      by_cases hx : x1 = x2
      · subst hx
        have he : lessE ⟨a1, k1, x1, y1⟩ ⟨a1, k1, x1, y2⟩ = decide (y1 < y2) := by simp [lessE]
        rw [he]
        clear he
        go_enter Try.func13, Try.ntmps13
        go_wp2
        go_ret
        exact ⟨rfl, ((Below.refl _ _).alloc (Nat.le_refl _) _).alloc (by simp) _⟩
      · have he : lessE ⟨a1, k1, x1, y1⟩ ⟨a1, k1, x2, y2⟩ = decide (x1 < x2) := by simp [lessE, hx]
        rw [he]
        clear he
        have hd : (x1 == x2) = false := by simp [hx]
        go_enter Try.func13, Try.ntmps13
        go_wp2
        go_ret
        exact ⟨rfl, ((Below.refl _ _).alloc (Nat.le_refl _) _).alloc (by simp) _⟩
    · have he : lessE ⟨a1, k1, x1, y1⟩ ⟨a1, k2, x2, y2⟩ = decide (k1 < k2) := by simp [lessE, hk]
      rw [he]
      clear he
      have hd : (k1 == k2) = false := by simp [hk]
      go_enter Try.func13, Try.ntmps13
      go_wp2
      go_ret
      exact ⟨rfl, ((Below.refl _ _).alloc (Nat.le_refl _) _).alloc (by simp) _⟩
  · have he : lessE ⟨a1, k1, x1, y1⟩ ⟨a2, k2, x2, y2⟩ = decide (a1 < a2) := by simp [lessE, ha]
    rw [he]
    clear he
    have hd : (a1 == a2) = false := by simp [ha]
    go_enter Try.func13, Try.ntmps13
    go_wp2
    go_ret
    exact ⟨rfl, ((Below.refl _ _).alloc (Nat.le_refl _) _).alloc (by simp) _⟩

theorem eV_inj {x y : Ent} (h : eV x = eV y) : x = y := by
  unfold eV at h
  simp only [Value.agg.injEq, Array.mk.injEq, List.cons.injEq, Value.int.injEq, true_and, and_true] at h
  obtain ⟨a1, a2, a3, a4⟩ := h
  cases x; cases y; simp_all
def eC (e : Ent) : Array Value := #[.int .i64 e.at_, .int .i64 e.kind, .int .u64 e.num, .int .i64 e.node]
def owns (w : World) (mb N : Nat) (D : DataW Unit) : Prop := w.ownsMap Try.prog 34 boolElem mb N D
theorem owns.chg {S : Nat → Prop} {w w' : World} {mb N : Nat} {D : DataW Unit} (h : owns w mb N D) (k : Chg S w w') (hn : ¬ S mb) : owns w' mb N D := by
  have hlt := World.ownsMap.lt h
  obtain ⟨es, c, hh, r⟩ := h
  exact ⟨es, c, (k.block mb hlt hn).trans hh, r⟩

/-- While all are set. -/
structure OrderAt (w : World) (B mb : Nat) (wr : World) (g N n : Nat) (T : Key → Option Int) (D : DataW Unit) : Prop where
  q : QS (fun j => B ≤ j ∧ j ≠ mb) wr g N n T
  m : owns wr mb N D
  d : MapT D n T
  bel : Below w.heap.size w wr
  le : w.heap.size ≤ B
  lb : B ≤ mb
  wa : ∀ q a, T q = some a → (Lit.int .i64 a).wf = true
theorem OrderAt.lt {w : World} {B mb : Nat} {wr : World} {g N n : Nat} {T : Key → Option Int} {D : DataW Unit} (h : OrderAt w B mb wr g N n T D) : mb < wr.heap.size := World.ownsMap.lt h.m
theorem OrderAt.more {w : World} {B mb : Nat} {wr : World} {g N n : Nat} {T : Key → Option Int} {D : DataW Unit} (h : OrderAt w B mb wr g N n T D) (o : Obj) : OrderAt w B mb (wr.alloc o) g N n T D :=
  ⟨h.q.below ((Below.refl _ _).alloc (Nat.le_refl _) _), h.m.alloc o, h.d, h.bel.alloc h.bel.size _, h.le, h.lb, h.wa⟩

/-- While the map is gone through for one entry. -/
structure InnerAt (w : World) (B mb s0 : Nat) (wr : World) (g N n : Nat) (T : Key → Option Int) (e0 : Ent) (be : Nat) (D0 D : DataW Unit) (left : Lit → Bool) (cnt : Nat) : Prop where
  rg : wr.ranges Try.prog 34 boolElem mb s0 N D left cnt
  q : QS (fun j => (B ≤ j ∧ j ≠ mb) ∧ j < s0) wr g N n T
  blk : Blk wr be (eC e0) 34
  hb : be < s0 ∧ be ≠ mb
  bel : Below w.heap.size w wr
  le : w.heap.size ≤ B
  lb : B ≤ mb
  st : (D = D0 ∧ ∀ a, T e0.key = some a → left (kle (entOf e0.key a)) = true) ∨ ∃ a, T e0.key = some a ∧ D = D0.del (kle (entOf e0.key a))

theorem entOf_wf {e0 : Ent} (hw : e0.wf) {a : Int} (ha : (Lit.int .i64 a).wf = true) : (entOf e0.key a).wf := ⟨ha, hw.2⟩
theorem chg_of_grown {w w' : World} {row : Option Nat} {S : Nat → Prop} (h : w.grownBy w' row) (hS : ∀ k, row = some k → k < w.heap.size → S k) : Chg S w w' := (Chg.refl S w).grown h hS

/-- An entry has come up. -/
structure Came (w : World) (mb r N : Nat) (D : DataW Unit) (left : Lit → Bool) (cnt : Nat) (x : Ent) (v : Value) (w' : World) (cnt' : Nat) : Prop where
  wf : x.wf
  lk : left (kle x) = true
  rg : w'.ranges Try.prog 34 boolElem mb r N D (fun z => left z && !z.sameKey (kle x)) cnt'
  lt : cnt' < cnt
  gr : w.grownBy w' (some r)
  en : (Instr.entry (.pointer (some ⟨r, 0, none⟩))).run Try.prog w' = .ok (.tuple #[eV x, v]) w'
theorem wpList_next_ent (w : World) {ops : Array Oper} {rest : List Oper} {o : Oper} {a : Act} {Q : Exit → Act → World → Prop} (hg : o.guard = none) (it : Operand) (hop : o.op = Op.next it false) (mb r N : Nat) (D : DataW Unit) (left : Lit → Bool) (cnt : Nat)
    (hit : a.eval it = .pointer (some ⟨r, 0, none⟩)) (h : w.ranges Try.prog 34 boolElem mb r N D left cnt)
    (hDone : (∀ kl, left kl = false) → wpList Try.prog ops Q rest (a.put o.dst (.tuple #[.bool false])) w)
    (hMore : ∀ (x : Ent) (v : Value) (w' : World) (cnt' : Nat), Came w mb r N D left cnt x v w' cnt' → wpList Try.prog ops Q rest (a.put o.dst (.tuple #[.bool true, eV x, v])) w') : wpList Try.prog ops Q (o :: rest) a w := by
  refine wpList_next_ranges w hg it hop 34 entLaw boolElem eV id (fun key kl h => by obtain ⟨e, _, h2, _⟩ := keyOf_ent_inv h; exact ⟨e, h2⟩) (fun v y h => ⟨v, rfl⟩) mb r N D left cnt hit h (fun _ hl => hDone hl) ?_
  intro x c kl y w' cnt' hkey hlk hv hat hrg hlt hgr hsz hen
  obtain ⟨x', hxw, hx', rfl⟩ := keyOf_ent_inv hkey
  obtain rfl : x = x' := eV_inj hx'
  exact hMore x c w' cnt' ⟨hxw, hlk, hrg, hlt, hgr, hen⟩

section
variable {w : World} {B mb s0 : Nat} {wr : World} {g N n : Nat} {T : Key → Option Int} {e0 : Ent} {be : Nat} {D0 D : DataW Unit} {left : Lit → Bool} {cnt : Nat}
theorem InnerAt.start {w5 : World} (h : OrderAt w B mb wr g N n T D) (hw : e0.wf) (hbk : Blk wr be (eC e0) 34) (hs0 : wr.heap.size = s0) (hrg : w5.ranges Try.prog 34 boolElem mb s0 N D (has D) (size D)) (hg : wr.grownBy w5 none) : InnerAt w B mb s0 w5 g N n T e0 be D D (has D) (size D) := by
  subst hs0
  have hc : Chg (fun _ => False) wr w5 := chg_of_grown hg (fun k e => by cases e)
  refine ⟨hrg, (h.q.cut).chg hc (fun _ _ e => e), hbk.chg hc (fun e => e), ⟨hbk.lt, fun e => ?_⟩, h.bel.trans (hc.below h.bel.size (fun k e => e.elim)), h.le, h.lb, .inl ⟨rfl, fun a ha => ?_⟩⟩
  · subst e
    obtain ⟨es, c, hh, _⟩ := h.m
    unfold Blk at hbk
    rw [hbk] at hh
    cases hh
  · rw [h.d.has _ (entOf_wf hw (h.wa _ _ ha))]
    exact decide_eq_true ha
theorem InnerAt.more (h : InnerAt w B mb s0 wr g N n T e0 be D0 D left cnt) (o : Obj) : InnerAt w B mb s0 (wr.alloc o) g N n T e0 be D0 D left cnt :=
  ⟨h.rg.alloc o, h.q.below ((Below.refl _ _).alloc (Nat.le_refl _) _), h.blk.alloc o, h.hb, h.bel.alloc h.bel.size _, h.le, h.lb, h.st⟩
theorem InnerAt.size (h : InnerAt w B mb s0 wr g N n T e0 be D0 D left cnt) : s0 < wr.heap.size := h.rg.lt
/-- What comes was set, and isn't set anew. -/
theorem InnerAt.was (h : InnerAt w B mb s0 wr g N n T e0 be D0 D left cnt) (h0 : MapT D0 n T) {x : Ent} (hx : x.wf) (hl : left (kle x) = true) : T x.key = some x.at_ := by
  have hh := ranges_has h.rg hl
  rcases h.st with ⟨rfl, _⟩ | ⟨a, ha, rfl⟩
  · rw [h0.has x hx] at hh
    exact of_decide_eq_true hh
  · by_cases hk : kle x = kle (entOf e0.key a)
    · rw [hk, Maps.has_del_same] at hh
      cases hh
    · rw [Maps.has_del_other hk, h0.has x hx] at hh
      exact of_decide_eq_true hh
theorem InnerAt.pass {w6 : World} {x : Ent} {cnt6 : Nat} (h : InnerAt w B mb s0 wr g N n T e0 be D0 D left cnt) (hw : e0.wf) (hT : ∀ q a, T q = some a → (Lit.int .i64 a).wf = true) (hx : x.wf) (hk : x.key ≠ e0.key) (hrg : w6.ranges Try.prog 34 boolElem mb s0 N D (fun z => left z && !z.sameKey (kle x)) cnt6) (hg : wr.grownBy w6 (some s0)) :
    InnerAt w B mb s0 w6 g N n T e0 be D0 D (fun z => left z && !z.sameKey (kle x)) cnt6 := by
  have hc : Chg (fun k => k = s0) wr w6 := chg_of_grown hg (fun k e _ => by cases e; rfl)
  have hs := h.bel.size
  refine ⟨hrg, h.q.chg hc (fun k hk e => by have := hk.2; omega), h.blk.chg hc (fun e => by have := h.hb.1; omega), h.hb, h.bel.trans (hc.below hs (fun k e => ?_)), h.le, h.lb, ?_⟩
  · have := h.le
    have := h.lb
    have hm := World.ownsMap.lt h.rg.owns
    have : k = s0 := e
    have := h.hb
    have := h.q.at
    omega
  · rcases h.st with ⟨rfl, h2⟩ | h2
    · refine .inl ⟨rfl, fun a ha => ?_⟩
      have h3 := h2 a ha
      have hne : kle (entOf e0.key a) ≠ kle x := kle_ne (entOf_wf hw (hT _ _ ha)) hx (fun e => hk (by rw [← e]; rfl))
      rw [h3, Maps.sameKey_ne hne]
      rfl
    · exact .inr h2
theorem InnerAt.next {w6 : World} (h : InnerAt w B mb s0 wr g N n T e0 be D0 D left cnt) (hg : wr.grownBy w6 (some s0)) :
    QS (fun j => (B ≤ j ∧ j ≠ mb) ∧ j < s0) w6 g N n T ∧ Blk w6 be (eC e0) 34 ∧ Below w.heap.size w w6 := by
  have hc : Chg (fun k => k = s0) wr w6 := chg_of_grown hg (fun k e _ => by cases e; rfl)
  have hs := h.bel.size
  refine ⟨h.q.chg hc (fun k hk e => by have := hk.2; omega), h.blk.chg hc (fun e => by have := h.hb.1; omega), h.bel.trans (hc.below hs (fun k e => ?_))⟩
  have := h.le
  have : k = s0 := e
  have := h.q.at
  omega
/-- The one that is set anew is deleted. -/
theorem InnerAt.gone {w6 w7 w8 : World} {x : Ent} {cnt8 : Nat} {left8 : Lit → Bool} (h : InnerAt w B mb s0 wr g N n T e0 be D0 D left cnt) (h0 : MapT D0 n T) (hx : x.wf) (hk : x.key = e0.key) (hl : left (kle x) = true)
    (hq : QS (fun j => (B ≤ j ∧ j ≠ mb) ∧ j < s0) w6 g N n T ∧ Blk w6 be (eC e0) 34 ∧ Below w.heap.size w w6) (o : Obj) (h7 : w7 = w6.alloc o) (hrg : w8.ranges Try.prog 34 boolElem mb s0 N (D.del (kle x)) left8 cnt8) (ht : w7.mapTurned w8 mb) :
    InnerAt w B mb s0 w8 g N n T e0 be D0 (D.del (kle x)) left8 cnt8 := by
  have hx0 := h.was h0 hx hl
  have e : x = entOf e0.key x.at_ := by rw [← hk]; rfl
  have hTe : T e0.key = some x.at_ := by rw [← hk]; exact hx0
  have hD : D = D0 := by
    rcases h.st with ⟨rfl, _⟩ | ⟨a, ha, rfl⟩
    · rfl
    · have hh := ranges_has h.rg hl
      rw [hTe] at ha
      cases ha
      rw [← e, Maps.has_del_same] at hh
      cases hh
  have hc : Chg (fun k => k = mb) w6 w8 := by
    subst h7
    exact ((Chg.refl _ _).alloc o).grown ht.grown (fun k e _ => by cases e; rfl)
  obtain ⟨q1, q2, q3⟩ := hq
  refine ⟨hrg, q1.chg hc (fun k hk e => hk.1.2 e), q2.chg hc h.hb.2, h.hb, q3.trans (hc.below q3.size (fun k e => ?_)), h.le, h.lb, .inr ⟨x.at_, hTe, ?_⟩⟩
  · have := h.le
    have := h.lb
    have : k = mb := e
    omega
  · rw [hD, ← e]
/-- All were gone through. -/
theorem InnerAt.ends (h : InnerAt w B mb s0 wr g N n T e0 be D0 D left cnt) (h0 : MapT D0 n T) (hw : e0.wf) (hT : ∀ q a, T q = some a → (Lit.int .i64 a).wf = true) (hl : ∀ kl, left kl = false) :
    MapT (D.put (kle e0) (.lit (.bool true))) (if (T e0.key).isSome then n else n + 1) (putT T e0.key e0.at_) := by
  cases ht : T e0.key with
  | none =>
    rcases h.st with ⟨rfl, _⟩ | ⟨a, ha, _⟩
    · exact h0.put e0 hw ht
    · rw [ht] at ha; cases ha
  | some a =>
    rcases h.st with ⟨_, h2⟩ | ⟨a', ha, rfl⟩
    · have := h2 a ht
      rw [hl] at this
      cases this
    · rw [ht] at ha
      cases ha
      have hp := h.q.pos ht
      have h1 := (h0.del (entOf e0.key a) (entOf_wf hw (hT _ _ ht)) ht).put e0 hw (by rw [entOf_key]; unfold delT; rw [if_pos rfl])
      rw [entOf_key, show n - 1 + 1 = n by omega] at h1
      have e : putT (delT T e0.key) e0.key e0.at_ = putT T e0.key e0.at_ := by
        funext k
        unfold putT delT
        split
        · rfl
        · rfl
      rw [e] at h1
      exact h1
end
end Go.Proofs.Ytgoejoiomjmfaaa

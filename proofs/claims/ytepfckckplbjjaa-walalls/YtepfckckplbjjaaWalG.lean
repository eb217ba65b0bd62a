/- A range over a log's entries from one on, in a fence. Own lemmas, no statement. -/
import Derived.Test.YtepfckckplbjjaaWalF
import Derived.Lib.QuietBelowIn
namespace Go.Proofs.Ytepfckckplbjjaa
open Go.ChangeShapes Go.WideShapes Go.ChangeAt Go.RowKit Go Go.Shelf

theorem wpIn_range_log {go : Operand} {ps : Array Tmp} {assign body : Code} {Q : Exit → Act → World → Prop} {a : Act} {w : World} {n₀ b0 b1 g from_ lf : Nat} {f : Foot} {s : LSt} {st : DSt} {es : List (Nat × List UInt8)}
    (hg : a.eval go = .func (.func 53) #[] #[.pointer (some ⟨b0, 0, none⟩), .pointer (some ⟨b1, 0, none⟩)])
    (hW : WL w g f s st) (hlow : Hid (g < n₀ ∧ ∀ i, f.has i → i < n₀)) (hn₀ : n₀ ≤ w.heap.size) (hx0 : Boxed w b0 28 (lptr g)) (hx1 : Boxed w b1 34 (.int .u64 (from_ : Int))) (hC : Chain s st from_ s.least es s.next lf) (hfirst : s.first ≤ from_) (hnx : s.next < 9223372036853000000) (hl64 : s.least < 18446744073709551616)
    (hps : ps.size = 2) (asg : Ent → Array Value → Array Value)
    (I : List Ent → World → Prop) (Ix : Code → List Ent → World → Prop) (hI : OwnFrom w.heap.size I) (hIx : ∀ c, OwnFrom w.heap.size (Ix c)) (h0 : I [] w)
    (hassign : ∀ (l : Nat) (x : Ent) (W : World) (K : Act → World → Prop), K { tmps := asg x ((ps.zip (encE x)).foldl (fun t (p, v) => t.setIfInBounds p v) a.tmps), defers := [] } W →
      assign.wpIn (Fence.wide.inRound l) 4 Try.prog (Exit.then K (fun _ _ _ => False)) { tmps := (ps.zip (encE x)).foldl (fun t (p, v) => t.setIfInBounds p v) a.tmps, defers := [] } W)
    (hbody : ∀ (l : Nat) (pre : List Ent) (x : Ent) (W : World), I pre W → goodE x W → (pre ++ [x]).map Ent.two <+: es →
      body.wpIn (Fence.wide.inRound l) 4 Try.prog (goodPost w.heap.size (KpL n₀ b0 x) I Ix (pre ++ [x]) W) { tmps := asg x ((ps.zip (encE x)).foldl (fun t (p, v) => t.setIfInBounds p v) a.tmps), defers := [] } W)
    (hdone : ∀ (D : Nat) (xs : List Ent) (W : World), w.heap.size ≤ D → xs.map Ent.two = es → I xs W → W.heap[D]? = some (.deferred (some [])) → Q .normal { a with defers := { target := .collected D, args := #[] } :: a.defers } W)
    (hstop : ∀ (D : Nat) (c : Code) (pre : List Ent) (W : World), w.heap.size ≤ D → pre.map Ent.two <+: es → Ix c pre W → W.heap[D]? = some (.deferred (some [])) → c.wpIn Fence.wide 6 Try.prog Q { a with defers := { target := .collected D, args := #[] } :: a.defers } W) :
    (Code.rangeFunc go ps assign body).wpIn Fence.wide 6 Try.prog Q a w :=
  wpIn_range_good rfl (by omega) hg trivial (enters_of Try.func53 (by kernel_rfl) rfl) (all_good (n := 5) (by omega) hW hlow hn₀ hx0 hx1 hC hfirst hnx hl64) (kpL_turn hn₀ hx0.lt) goodE_turn (Below.refl _ _) (fun _ => hps.symm)
    I Ix hI hIx h0 (fun x => { tmps := asg x ((ps.zip (encE x)).foldl (fun t (p, v) => t.setIfInBounds p v) a.tmps), defers := [] }) hassign hbody hdone hstop
/-- An operation that defers. -/
def defers : Op → Bool
  | .defer _ => true
  | _ => false
theorem uponIn_inRound {F : Fence} {n : Nat} {P : Program} {o : Oper} {a : Act} {next : Act → World → Prop} {Q : Exit → Act → World → Prop} {r : Result Next} (l : Nat) (h : o.uponIn F n P a next Q r) : o.uponIn (F.inRound l) n P a next Q r := h
theorem wpOpIn_inRound {F : Fence} {n : Nat} {P : Program} {ops : Array Oper} {Q : Exit → Act → World → Prop} {i : Nat} {K : Act → World → Prop} {a : Act} {w : World} (l : Nat) (hro : F.round = none) (hnd : ∀ o, ops[i]? = some o → defers o.op = false) (h : wpOpIn F n P ops Q i K a w) : wpOpIn (F.inRound l) n P ops Q i K a w := by
  unfold wpOpIn at *
  cases ho : ops[i]? with
  | none => rw [ho] at h; exact h
  | some o =>
    rw [ho] at h
    have hd := hnd o ho
    have he : ∀ ρ, Oper.semAt (some l) ρ o = Oper.semAt none ρ o := fun ρ => by
      rw [Oper.semAt_some l ρ o (fun c hc => by rw [hc] at hd; cases hd), Oper.semAt_none]
    simp only at h ⊢
    split at h
    · rename_i hw
      rw [if_pos hw]
      refine ⟨h.1, ?_⟩
      have h2 := h.2
      rw [hro, ← he] at h2
      exact uponIn_inRound l h2
    · rename_i hw
      rw [if_neg hw]
      exact h
theorem wpAnyIn_inRound {F : Fence} {n : Nat} {P : Program} {md : Region.Mode} {ops : Array Oper} {Q : Exit → Act → World → Prop} (l : Nat) (hro : F.round = none) (hnd : ∀ (i : Nat) (o : Oper), ops[i]? = some o → defers o.op = false) : ∀ (fuel : Nat) (listed : Array Bool) (a : Act) (w : World),
    wpAnyIn F n P md ops Q fuel listed a w → wpAnyIn (F.inRound l) n P md ops Q fuel listed a w
  | 0, _, _, _, h => h
  | fuel + 1, _, _, _, h => ⟨h.1, fun i hi => wpOpIn_mono (fun a' w' => wpAnyIn_inRound l hro hnd fuel _ a' w') (wpOpIn_inRound l hro (hnd i) (h.2 i hi))⟩
/-- A region that draws its order, within a round: what only reads, and calls that make memory. -/
theorem wpIn_region_quiet_round {F : Fence} {n : Nat} {P : Program} {id l : Nat} {Q : Exit → Act → World → Prop} {a : Act} {w : World} {os : List Oper} (hro : F.round = none) (hm : P.follows .mixedOrders = true) (hB : Region.lexB .any os.toArray = true) (hnd : os.all (fun o => !defers o.op) = true)
    (h : wpQuietIn F n P os.toArray (fun w' => ∃ p : Regrown, w' = Sort.grow (redrawn w p.d) p.os) (fun a' => ∀ w', (∃ p : Regrown, w' = Sort.grow (redrawn w p.d) p.os) → Q .normal a' w') os a) : (Code.region id os.toArray true).wpIn (F.inRound l) n P Q a w := by
  simp only [Region.lexB, Bool.and_eq_true] at hB
  refine wpIn_region_any hm (wpAnyIn_inRound l hro (fun i o ho => ?_) _ _ _ _ (wpAnyIn_of_quiet (C := fun w' => ∃ p : Regrown, w' = Sort.grow (redrawn w p.d) p.os) (Q := fun a' => ∀ w', (∃ p : Regrown, w' = Sort.grow (redrawn w p.d) p.os) → Q .normal a' w') hro (fun _ w' hw' h => h w' hw') _ _ _ _ ⟨⟨w.drawn + 1, #[]⟩, by rw [Sort.grow_empty]; rfl⟩ ?_))
  · have := List.all_eq_true.1 hnd o (List.mem_of_getElem? (by simpa using ho))
    simpa using this
  · have := wpAnyQIn_lex (F := F) (n := n) (C := fun w' => ∃ p : Regrown, w' = Sort.grow (redrawn w p.d) p.os) (md := .any) hB.1 os.toArray.toList 0 (Array.replicate os.toArray.size false) a (by simp) (by simpa using hB.2) (by simpa using h)
    simpa using this
theorem boxed_abideF {B b : Nat} {t : TypeId} {v : List Ent → Value} : OwnFrom B (fun s W => Boxed W b t (v s)) := fun s _ _ _ h hg hr => boxed_abide s _ _ _ h hg hr
/-- While entries are compared: which is next, in a box; the log's box. -/
def AlI (n₀ g q : Nat) (wA : World) (pre : List Ent) (W : World) : Prop := Boxed W n₀ 3 (.int .i64 ((q + pre.length : Nat) : Int)) ∧ Boxed W (n₀ + 1) 28 (lptr g) ∧ Below n₀ wA W
theorem alI_own {n₀ g q B : Nat} {wA : World} (h : n₀ ≤ wA.heap.size) (hB : n₀ ≤ B) : OwnFrom B (AlI n₀ g q wA) := OwnFrom.and boxed_abideF (OwnFrom.and boxed_abide (ownFrom_below h hB))
theorem keepsOthers_below {W W' : World} (h : Below W.heap.size W W') : KeepsOthers W W' := ⟨h.size, fun k _ hk _ => (h.block k (Array.getElem?_eq_some_iff.1 hk).1).trans hk⟩
/-- A round's end: a store into a box of the law's own, behind what only made memory. -/
theorem alI_step {n₀ b0 : Nat} {x : Ent} {W W' : World} (hb : Below W.heap.size W W') (hn : n₀ ≤ W.heap.size) (h0 : b0 < W.heap.size) (h1 : b0 ≠ n₀) (hg : goodE x W) (h2 : ∀ c, ¬ Blk W n₀ c 95) (u : Value) :
    KeepsOthers W (W'.setCell ⟨n₀, 0, none⟩ u) ∧ KpL n₀ b0 x W (W'.setCell ⟨n₀, 0, none⟩ u) := by
  obtain ⟨_, c, hc⟩ := hg
  refine ⟨(keepsOthers_below hb).trans (KeepsOthers.setCell _ _ _), (hb.mono hn).setCell (p := ⟨n₀, 0, none⟩) (Nat.le_refl _) u, (Below.heap_setCell _ _ _ _ h1).trans (hb.block _ h0), ?_⟩
  exact (Below.heap_setCell _ _ _ _ fun e => h2 c (by rw [← show x.2.2.2 = n₀ from e]; exact hc)).trans (hb.block _ hc.lt)
/-- Behind both ranges. -/
structure AlN (w w1 W : World) (a0 : Option Addr) (i cap p nb g D : Nat) (v : Value) (f : Foot) (nx : Nat) (st : DSt) (es : List (Nat × List UInt8)) : Prop where
  wl : WL W g f ⟨0, 98, 1, 1, 0, 1, nx, 0⟩ st
  bx : Boxed W nb 33 v
  ow : W.ownsRow w1.heap.size 34 1 v i (es.map numE)
  b0 : Boxed W w.heap.size 64 (.slice a0 i cap)
  b1 : Boxed W (w.heap.size + 1) 3 (.int .i64 (p : Int))
  b2 : Boxed W (w.heap.size + 1 + 1) 4 (.bool false)
  bel : Below w.heap.size w W
  d : W.heap[D]? = some (.deferred (some []))
theorem AlN.below {w w1 W W' : World} {a0 : Option Addr} {i cap p nb g D : Nat} {v : Value} {f : Foot} {nx : Nat} {st : DSt} {es : List (Nat × List UInt8)} (h : AlN w w1 W a0 i cap p nb g D v f nx st es) (hb : Below W.heap.size W W') : AlN w w1 W' a0 i cap p nb g D v f nx st es :=
  ⟨h.wl.below hb, (hb.block _ h.bx.lt).trans h.bx, own_keptW h.ow (fun k hk => by obtain ⟨c, hc⟩ := own_block h.ow hk; exact hb.block _ hc.lt), (hb.block _ h.b0.lt).trans h.b0, (hb.block _ h.b1.lt).trans h.b1, (hb.block _ h.b2.lt).trans h.b2,
    h.bel.trans (hb.mono h.bel.size), (hb.block _ (Array.getElem?_eq_some_iff.1 h.d).1).trans h.d⟩
theorem al_end {w W : World} {D1 D2 : Nat} (hb : Boxed W (w.heap.size + 1 + 1) 4 (.bool false)) (hbel : Below w.heap.size w W) (h1 : W.heap[D1]? = some (.deferred (some []))) (h2 : W.heap[D2]? = some (.deferred (some []))) (ne : D1 ≠ D2) (hD1 : w.heap.size ≤ D1) (hD2 : w.heap.size ≤ D2) :
    (W.setCell ⟨w.heap.size + 1 + 1, 0, none⟩ (.bool true)).heap[D2]? = some (.deferred (some [])) ∧
    ((W.setCell ⟨w.heap.size + 1 + 1, 0, none⟩ (.bool true)).putObj D2 (.deferred none)).heap[D1]? = some (.deferred (some [])) ∧
    (((W.setCell ⟨w.heap.size + 1 + 1, 0, none⟩ (.bool true)).putObj D2 (.deferred none)).putObj D1 (.deferred none)).cell? ⟨w.heap.size + 1 + 1, 0, none⟩ = some (.bool true) ∧
    Below w.heap.size w (((W.setCell ⟨w.heap.size + 1 + 1, 0, none⟩ (.bool true)).putObj D2 (.deferred none)).putObj D1 (.deferred none)) := by
  have k1 := (KeepsOthers.setCell W ⟨w.heap.size + 1 + 1, 0, none⟩ (.bool true)).same D1 _ h1 rfl
  have k2 := (KeepsOthers.setCell W ⟨w.heap.size + 1 + 1, 0, none⟩ (.bool true)).same D2 _ h2 rfl
  have k3 : ((W.setCell ⟨w.heap.size + 1 + 1, 0, none⟩ (.bool true)).putObj D2 (.deferred none)).heap[D1]? = some (.deferred (some [])) := (World.putObj_heap_other ne).trans k1
  have hc := (Boxed.set (.bool true) hb).cell
  have hc2 := cell_kept hc (grownBy_putObj' _ D2 (.deferred none)) (fun r e => by cases e; exact ⟨_, k2, rfl⟩)
  have hc3 := cell_kept hc2 (grownBy_putObj' _ D1 (.deferred none)) (fun r e => by cases e; exact ⟨_, k3, rfl⟩)
  refine ⟨k2, k3, hc3, ?_⟩
  have b1 := hbel.setCell (p := ⟨w.heap.size + 1 + 1, 0, none⟩) (by show w.heap.size ≤ w.heap.size + 1 + 1; omega) (.bool true)
  exact (b1.trans (belowK_b (w := w) (Nat.le_refl _) _ D2 _ _ hD2 k2 rfl rfl)).trans (belowK_b (w := w) (Nat.le_refl _) _ D1 _ _ hD1 k3 rfl rfl)
/-- While entries are counted. -/
def AlJ (n₀ g p : Nat) (wA : World) (pre : List Ent) (W : World) : Prop := AlI n₀ g 0 wA pre W ∧ pre.length ≤ p
theorem alJ_own {n₀ g p B : Nat} {wA : World} (h : n₀ ≤ wA.heap.size) (hB : n₀ ≤ B) : OwnFrom B (AlJ n₀ g p wA) := OwnFrom.and (alI_own h hB) (fun _ _ _ _ h _ _ => h)
/-- Where it was left early. -/
def AlJx (n₀ _g p : Nat) (wA : World) (c : Code) (pre : List Ent) (W : World) : Prop := c = .exit 4 ∧ pre.length = p + 1 ∧ Boxed W n₀ 3 (.int .i64 (p : Int)) ∧ Below n₀ wA W
theorem alJx_own {n₀ g p B : Nat} {wA : World} (h : n₀ ≤ wA.heap.size) (hB : n₀ ≤ B) (c : Code) : OwnFrom B (AlJx n₀ g p wA c) :=
  OwnFrom.and (fun _ _ _ _ h _ _ => h) (OwnFrom.and (fun _ _ _ _ h _ _ => h) (OwnFrom.and boxed_abide (ownFrom_below h hB)))
theorem prefix_next {pre : List Ent} {x : Ent} {es : List (Nat × List UInt8)} (h : (pre ++ [x]).map Ent.two <+: es) : es[pre.length]? = some (x.1, x.2.2.1) := by
  obtain ⟨t, ht⟩ := h
  rw [← ht]
  simp [Ent.two]
end Go.Proofs.Ytepfckckplbjjaa

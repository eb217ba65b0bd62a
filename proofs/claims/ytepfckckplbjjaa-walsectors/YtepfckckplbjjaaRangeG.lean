/- A range over an iterator that hands over rows lying in memory: what is known of them where a round begins ('good'). Own law, no statement. -/
import Derived.RangeFuncNested
import Derived.RangeFuncBound
import Derived.RangeFuncCalls
import Derived.RangeFuncLeaves
import Derived.RangeFuncBox
import Derived.Shelf.Abstract
import Derived.Shelf.RegionOpen
import Derived.WalkKit
import Derived.OwnWalkIn
import Derived.TacticsInMore
import Derived.LoopNIn
import Derived.LoopIn
import Derived.Maps.AppendAt
import Derived.Test.YtepfckckplbjjaaBase
namespace Go.Proofs.Ytepfckckplbjjaa
open Go Go.RowKit Go.Shelf

section
variable {F : Fence} {n : Nat} {P : Program}
/-- What an iterator promises: it calls its body with things that are good in the world of the call. -/
def SeqGood {α : Type} (F : Fence) (n : Nat) (P : Program) (g : Nat) (lb : Array Value) (encs : α → Array Value) (good : α → World → Prop) (Kp : α → World → World → Prop) (S Sp : List α → Prop) (Nx : List α → α → Prop) (w : World) : Prop :=
  ∀ (l : Nat) (J Jx : List α → World → Prop) (W : World), Below w.heap.size w W → AbidesFrom W.heap.size J → AbidesFrom W.heap.size Jx → J [] W →
    (∀ pre x W1, J pre W1 → good x W1 → Nx pre x → YieldAt F (n - 1) P l (encs x) W1 fun e W' => (e = .returned (.bool true) ∧ J (pre ++ [x]) W' ∧ Kp x W1 W') ∨ (e = .returned (.bool false) ∧ Jx (pre ++ [x]) W')) →
    CallsIn F n P g (#[.func (.yield l) #[] #[]] ++ lb) W fun e W' => (∃ v, e = .returned v) ∧ ((∃ xs, S xs ∧ J xs W') ∨ (∃ pre, Sp pre ∧ Jx pre W'))

/-- The loop's own two blocks. -/
structure LoopAt (W : World) (d : Nat) (r : Loop) : Prop where
  l : W.heap[d + 1]? = some (.loop r)
  d : W.heap[d]? = some (.deferred (some []))
theorem LoopAt.turn {W : World} {d : Nat} {r : Loop} (h : LoopAt W d r) (r' : Loop) : LoopAt (W.putObj (d + 1) (.loop r')) d r' :=
  ⟨World.putObj_heap_same (Array.getElem?_eq_some_iff.1 h.l).1, (World.putObj_heap_other (by omega)).trans h.d⟩
theorem LoopAt.keep {W W' : World} {d B : Nat} {r : Loop} (h : LoopAt W d r) (hk : KeepsFrom B W W') (hB : B ≤ d) : LoopAt W' d r := ⟨hk.same _ _ (by omega) h.l rfl, hk.same _ _ hB h.d rfl⟩
theorem LoopAt.abide {W W' : World} {d : Nat} {r : Loop} {row : Option Nat} (h : LoopAt W d r) (hg : W.grownBy W' row) (hr : ∀ k, row = some k → ∃ o : Obj, W.heap[k]? = some o ∧ o.isWalk = true) : LoopAt W' d r := by
  have hne : ∀ (k : Nat) (o : Obj), W.heap[k]? = some o → o.isWalk = false → W'.heap[k]? = some o := fun k o ho hw => by
    refine (hg.block k (Array.getElem?_eq_some_iff.1 ho).1 fun e => ?_).trans ho
    obtain ⟨o', h1, h2⟩ := hr k e.symm
    rw [ho] at h1
    cases h1
    rw [hw] at h2
    cases h2
  exact ⟨hne _ _ h.l rfl, hne _ _ h.d rfl⟩

/-- How a round's body may end. -/
def goodPost {α : Type} (B : Nat) (Kp : World → World → Prop) (I : List α → World → Prop) (Ix : Code → List α → World → Prop) (xs : List α) (W : World) : Exit → Act → World → Prop
  | .normal, _, W' => KeepsFrom B W W' ∧ Kp W W' ∧ I xs W'
  | .ret, _, W' => KeepsFrom B W W' ∧ Ix .ret xs W'
  | .exit id, _, W' => KeepsFrom B W W' ∧ Ix (.exit id) xs W'
  | .goto t, _, W' => KeepsFrom B W W' ∧ Ix (.goto t) xs W'
  | .panic _, _, _ => False
  | .outgrown, _, _ => False

theorem wpIn_range_good {α : Type} {g : Operand} {ps : Array Tmp} {assign body : Code} {Q : Exit → Act → World → Prop} {a : Act} {w : World}
    (hro : F.round = none) (h1 : 1 ≤ n) {gf : Nat} {lb : Array Value} (hg : a.eval g = .func (.func gf) #[] lb) (hFg : F.fn gf) (eg : ∀ args w, (callFunc gf args).run P w = .ok (.enter gf args) w)
    {encs : α → Array Value} {good : α → World → Prop} {Kp : α → World → World → Prop} {S Sp : List α → Prop} {Nx : List α → α → Prop} {w0 : World} (hseq : SeqGood F (n - 1) P gf lb encs good Kp S Sp Nx w0)
    (hK : ∀ (x : α) (W W3 : World) (l : Nat) (o o2 o1 o3 : Obj), w.heap.size ≤ l → W.heap[l]? = some o → o.isCells = false → W3.heap[l]? = some o2 → o2.isCells = false → good x W → Kp x (W.putObj l o1) W3 → Kp x W (W3.putObj l o3))
    (hgood : ∀ (x : α) (W : World) (l : Nat) (o o' : Obj), W.heap[l]? = some o → o.isCells = false → good x W → good x (W.putObj l o'))
    (hb0 : Below w0.heap.size w0 w) (hps : ∀ x, (encs x).size = ps.size)
    (I : List α → World → Prop) (Ix : Code → List α → World → Prop) (hI : OwnFrom w.heap.size I) (hIx : ∀ c, OwnFrom w.heap.size (Ix c)) (h0 : I [] w) (a₁ : α → Act)
    (hassign : ∀ (l : Nat) (x : α) (W : World) (K : Act → World → Prop), K (a₁ x) W →
      assign.wpIn (F.inRound l) (n - 1 - 1) P (Exit.then K (fun _ _ _ => False)) { tmps := (ps.zip (encs x)).foldl (fun t (p, v) => t.setIfInBounds p v) a.tmps, defers := [] } W)
    (hbody : ∀ (l : Nat) (pre : List α) (x : α) (W : World), I pre W → good x W → Nx pre x → body.wpIn (F.inRound l) (n - 1 - 1) P (goodPost w.heap.size (Kp x) I Ix (pre ++ [x]) W) (a₁ x) W)
    (hdone : ∀ (D : Nat) (xs : List α) (W : World), w.heap.size ≤ D → S xs → I xs W → W.heap[D]? = some (.deferred (some [])) → Q .normal { a with defers := { target := .collected D, args := #[] } :: a.defers } W)
    (hstop : ∀ (D : Nat) (c : Code) (pre : List α) (W : World), w.heap.size ≤ D → Sp pre → Ix c pre W → W.heap[D]? = some (.deferred (some [])) → c.wpIn F n P Q { a with defers := { target := .collected D, args := #[] } :: a.defers } W) :
    (Code.rangeFunc g ps assign body).wpIn F n P Q a w := by
  refine wpIn_rangeFunc fun fn hfn => ?_
  rw [hro]
  let rec_ (st : LoopState) (pe : Option Code) : Loop := { state := st, pending := pe, fn, tmps := a.tmps, params := ps, assign, body, defers := w.heap.size }
  have hL0 : LoopAt ((w.alloc (.deferred (some []))).alloc (.loop (rec_ .ready none))) w.heap.size (rec_ .ready none) := by
    refine ⟨?_, (Below.heap_alloc _ _ _ (by simp)).trans (World.alloc_heap_new w _)⟩
    have := World.alloc_heap_new (w.alloc (.deferred (some []))) (.loop (rec_ .ready none))
    rwa [World.size_alloc] at this
  have hI0 : I [] ((w.alloc (.deferred (some []))).alloc (.loop (rec_ .ready none))) := hI.alloc _ (hI.alloc _ h0)
  have hB0 : Below w0.heap.size w0 ((w.alloc (.deferred (some []))).alloc (.loop (rec_ .ready none))) := hb0.trans ((((Below.refl _ w).alloc (Nat.le_refl _) _).alloc (by simp) _).mono hb0.size)
  have hsz : w.heap.size ≤ ((w.alloc (.deferred (some []))).alloc (.loop (rec_ .ready none))).heap.size := by simp; omega
  refine ⟨w.heap.size + 1, [{ target := .collected w.heap.size, args := #[] }], (w.alloc (.deferred (some []))).alloc (.loop (rec_ .ready none)), { target := .fn (.func gf) lb, args := #[.func (.yield (w.heap.size + 1)) #[] #[]] }, (w.alloc (.deferred (some []))).alloc (.loop (rec_ .ready none)), gf,
    #[.func (.yield (w.heap.size + 1)) #[] #[]] ++ lb, (w.alloc (.deferred (some []))).alloc (.loop (rec_ .ready none)), ?_, ?_, ?_, ?_, fun _ => h1, ?_⟩
  · exact run_enterLoop_outer _ _ _ _ _
  · simp only [resolve, hg]
    simp [go_sem]
  · intro f' hf'
    simp [Target.leads] at hf'
    subst hf'
    exact hFg
  · simp [invoke, go_sem, eg]
  · generalize (w.alloc (.deferred (some []))).alloc (.loop (rec_ .ready none)) = W1 at *
    have cells : ∀ {A B : World} {row : Option Nat}, (∀ r, row = some r → W1.heap.size ≤ r ∧ ∃ o : Obj, A.heap[r]? = some o ∧ o.isWalk = true) → ∀ r, row = some r → w.heap.size ≤ r ∧ ∃ o : Obj, A.heap[r]? = some o ∧ o.isCells = false := fun hr r e => by
      obtain ⟨k1, o, k2, k3⟩ := hr r e
      exact ⟨Nat.le_trans hsz k1, o, k2, Obj.not_cells_of_walk k3⟩
    refine (hseq (w.heap.size + 1) (fun pre W => I pre W ∧ LoopAt W w.heap.size (rec_ .ready none)) (fun pre W => ∃ c, Ix c pre W ∧ LoopAt W w.heap.size (rec_ .done (some c))) W1 hB0
      (fun s A B row hs hg' hr => ⟨hI s A B row hs.1 hg' (cells (B := B) hr), hs.2.abide hg' fun k e => (hr k e).2⟩)
      (fun s A B row ⟨c, h2, h3⟩ hg' hr => ⟨c, hIx c s A B row h2 hg' (cells (B := B) hr), h3.abide hg' fun k e => (hr k e).2⟩) ⟨hI0, hL0⟩ ?_).mono ?_
    · rintro pre x W ⟨hi, hl⟩ hgx hlen
      have hy := run_yield (P := P) (args := encs x) hl.l (hps x)
      refine ⟨fn, _, assign, body, hy, roundIn_of_wpIn hfn (hassign _ x W _ ⟨_, run_beginRound hl.l rfl, ?_⟩)⟩
      have hb := hl.turn { rec_ .ready none with state := .busy }
      refine wpIn_mono (hbody _ pre x _ (hI.putObj _ hi (by omega) hl.l rfl) (hgood _ _ _ _ _ hl.l rfl hgx) hlen) fun e a3 W3 hp => ?_
      have away : ∀ (c : Code), KeepsFrom w.heap.size (W.putObj (w.heap.size + 1) (.loop { rec_ .ready none with state := .busy })) W3 → Ix c (pre ++ [x]) W3 →
          ∃ v W4, (Instr.endRound (w.heap.size + 1) (some c)).run P W3 = .ok v W4 ∧ v = .bool false ∧ ∃ c, Ix c (pre ++ [x]) W4 ∧ LoopAt W4 w.heap.size (rec_ .done (some c)) := fun c hk hi3 => by
        have hl3 := hb.keep hk (Nat.le_refl _)
        exact ⟨_, _, run_endRound (P := P) (some c) hl3.l, rfl, c, (hIx c).putObj _ hi3 (by omega) hl3.l rfl, hl3.turn _⟩
      cases e with
      | normal =>
        obtain ⟨hk3, hkp3, hi3⟩ := hp
        have hl3 := hb.keep hk3 (Nat.le_refl _)
        exact ⟨_, _, run_endRound (P := P) none hl3.l, .inl ⟨rfl, ⟨hI.putObj _ hi3 (by omega) hl3.l rfl, hl3.turn _⟩, hK x W W3 _ _ _ _ _ (by omega) hl.l rfl hl3.l rfl hgx hkp3⟩⟩
      | ret =>
        obtain ⟨v, W4, k1, rfl, k2⟩ := away .ret hp.1 hp.2
        exact ⟨_, _, k1, .inr ⟨rfl, k2⟩⟩
      | exit id =>
        obtain ⟨v, W4, k1, rfl, k2⟩ := away (.exit id) hp.1 hp.2
        exact ⟨_, _, k1, .inr ⟨rfl, k2⟩⟩
      | goto t =>
        obtain ⟨v, W4, k1, rfl, k2⟩ := away (.goto t) hp.1 hp.2
        exact ⟨_, _, k1, .inr ⟨rfl, k2⟩⟩
      | panic ch => exact hp.elim
      | outgrown => exact hp.elim
    · rintro e W2 ⟨⟨v, rfl⟩, (⟨xs, hS, hi, hl⟩ | ⟨pre, hSp, c, hi, hl⟩)⟩
      · exact ⟨none, _, run_endLoop (P := P) hl.l (by simp [rec_]), hdone _ xs _ (Nat.le_refl _) hS (hI.putObj _ hi (by omega) hl.l rfl) (hl.turn _).d⟩
      · exact ⟨some c, _, run_endLoop (P := P) hl.l (by simp [rec_]), hstop _ c pre _ (Nat.le_refl _) hSp ((hIx c).putObj _ hi (by omega) hl.l rfl) (hl.turn _).d⟩
end
end Go.Proofs.Ytepfckckplbjjaa

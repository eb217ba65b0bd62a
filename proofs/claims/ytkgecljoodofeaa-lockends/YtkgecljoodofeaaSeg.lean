/- A region that draws its order and holds calls that make memory: what only reads is taken first, stretch by stretch, in a class of worlds; each call when nothing else may come up. Own lemmas, no statement. -/
import Derived.Test.YtkgecljoodofeaaCalm
import Derived.OrdersHeld
import Derived.Deep.RegionHeld3
namespace Go.Proofs.Ytkgecljoodofeaa
open Go.RowKit

/-- Operations that enter no function and write nothing by their make. -/
def plainOp : Op → Bool
  | .move _ => true
  | .assign _ => true
  | .pick _ _ _ => true
  | .build _ _ => true
  | .load _ _ => true
  | .binOp _ _ _ _ _ => true
  | .unOp _ _ _ => true
  | .convert _ _ _ => true
  | .slice _ _ _ _ _ => true
  | .fieldAddr _ _ _ => true
  | .field _ _ _ => true
  | .indexAddr _ _ _ => true
  | .index _ _ _ => true
  | .extract _ _ => true
  | .makeInterface _ _ => true
  | .nilCheck _ => true
  | .call c => match c.callee with
    | .builtin .len => true
    | .builtin .cap => true
    | .builtin .min => true
    | .builtin .max => true
    | _ => false
  | _ => false

theorem andThen_value {P : Program} {w w' : World} {s : Sem Value} {n : Next} (h : ((do let x ← s; pure (Next.value x) : Sem Next)).run P w = .ok n w') : ∃ u, n = .value u := by
  simp only [Sem.run_bind, Sem.run_pure] at h
  cases hr : s.run P w with
  | ok x w1 => rw [hr] at h; simp only [Result.andThen] at h; cases h; exact ⟨x, rfl⟩
  | halt x w1 => rw [hr] at h; simp only [Result.andThen] at h; cases h

theorem andThen_value' {α : Type} {P : Program} {w w' : World} {s : Sem α} {f : α → Value} {n : Next} (h : ((do let x ← s; pure (Next.value (f x)) : Sem Next)).run P w = .ok n w') : ∃ u, n = .value u := by
  simp only [Sem.run_bind, Sem.run_pure] at h
  cases hr : s.run P w with
  | ok x w1 => rw [hr] at h; simp only [Result.andThen] at h; cases h; exact ⟨_, rfl⟩
  | halt x w1 => rw [hr] at h; simp only [Result.andThen] at h; cases h

theorem andThen_ok' {w' : World} {r : Result Value} {n : Next} (h : (r.andThen fun a w' => Result.ok (Next.value a) w') = .ok n w') : ∃ u, n = .value u := by
  cases r with
  | ok x w1 => simp only [Result.andThen] at h; cases h; exact ⟨_, rfl⟩
  | halt x w1 => simp only [Result.andThen] at h; cases h

def Vl (s : Sem Next) : Prop := ∀ P w n w', s.run P w = .ok n w' → ∃ u, n = .value u
theorem Vl.pure (u : Value) : Vl (pure (Next.value u)) := fun P w n w' h => by simp only [Sem.run_pure] at h; cases h; exact ⟨u, rfl⟩
theorem Vl.bind {α : Type} {s : Sem α} {f : α → Sem Next} (hf : ∀ x, Vl (f x)) : Vl (s >>= f) := fun P w n w' h => by
  simp only [Sem.run_bind] at h
  cases hr : s.run P w with
  | ok x w1 => rw [hr] at h; simp only [Result.andThen] at h; exact hf x P w1 n w' h
  | halt x w1 => rw [hr] at h; simp only [Result.andThen] at h; cases h
theorem Vl.halt (x : Halt) : Vl (.halt x) := fun P w n w' h => by simp [Sem.run] at h
theorem Vl.nilDeref : Vl (runtimePanic .nilDeref) := by
  unfold runtimePanic
  exact Vl.bind fun p => Vl.halt _
theorem nilCheck_value {P : Program} {ρ : Operand → Value} {x : Operand} {o : Oper} {w w' : World} {n : Next} (ho : o.op = .nilCheck x) (h : (execOp ρ o).run P w = .ok n w') : ∃ u, n = .value u := by
  have hv : Vl (execOp ρ o) := by
    unfold execOp
    rw [ho]
    simp only
    split
    · exact Vl.nilDeref
    · exact Vl.nilDeref
    · exact Vl.nilDeref
    · split
      · exact Vl.nilDeref
      · refine Vl.bind fun p => Vl.bind fun b => ?_
        split
        · exact Vl.bind fun _ => Vl.pure _
        · exact Vl.pure _
      · exact Vl.pure _
    · exact Vl.pure _
  exact hv P w n w' h

theorem plain_value {P : Program} {ρ : Operand → Value} {o : Oper} {w w' : World} {n : Next} (hp : plainOp o.op = true) (h : (execOp ρ o).run P w = .ok n w') : ∃ u, n = .value u := by
  by_cases hnc : ∃ x, o.op = .nilCheck x
  · obtain ⟨x, hx⟩ := hnc
    exact nilCheck_value hx h
  unfold execOp at h
  generalize o.op = op at *
  cases op <;> simp only [plainOp] at hp
  all_goals first
    | exact andThen_value h
    | (simp only [Sem.run_pure] at h; cases h; exact ⟨_, rfl⟩)
    | (exact absurd hp (by decide))
    | (exact absurd ⟨_, rfl⟩ hnc)
    | skip
  · exact andThen_value' h
  · rename_i c
    obtain ⟨callee, args, argTypes⟩ := c
    simp only at hp
    split at hp
    all_goals first
      | (exact absurd hp (by decide))
      | (simp only [resolve, Sem.run_bind, Sem.run_pure, Result.andThen_ok, invoke, builtin] at h; exact andThen_ok' h)

/-- A stretch of operations that may come up one behind the other, each free to be taken first. -/
def segB (md : Region.Mode) (ops : Array Oper) : List Nat → Array Bool → Bool
  | [], _ => true
  | i :: r, listed => (Region.ready md ops listed).contains i && Region.free md ops listed i && ((ops[i]?).map fun o => plainOp o.op).getD false && segB md ops r (listed.setIfInBounds i true)
def markAll (listed : Array Bool) : List Nat → Array Bool
  | [] => listed
  | i :: r => markAll (listed.setIfInBounds i true) r
def opsAt (ops : Array Oper) : List Nat → List Oper
  | [] => []
  | i :: r => (match ops[i]? with | some o => [o] | none => []) ++ opsAt ops r

section
variable {P : Program} {ops : Array Oper} {Q : Exit → Act → World → Prop} {S : World → Prop}

theorem quiet_yields {o : Oper} {a : Act} {v : Value} (hp : plainOp o.op = true) (h : ∀ w, (∃ s : Cls S, w = s.wd) → o.quietAt P a (fun w' => ∃ s : Cls S, w' = s.wd) w v) :
    ∀ w, S w → (execOp a.eval o).run P w = .ok (.value v) w := by
  intro w hw
  have h1 := h w ⟨⟨w, hw⟩, rfl⟩
  unfold Oper.quietAt at h1
  cases hr : (execOp a.eval o).run P w with
  | ok n w' =>
    obtain ⟨u, rfl⟩ := plain_value hp hr
    rw [hr] at h1
    simp only [Oper.quietUpon] at h1
    rw [h1.1, h1.2]
  | halt x w' => rw [hr] at h1; simp only [Oper.quietUpon] at h1

/-- ONE STRETCH, walked once. -/
theorem wpAnyH_seg (hs : Region.noSelect ops = true) (hQ : ∀ c a w, Q (.panic c) a w → False) : ∀ (seg : List Nat) (fuel : Nat) (listed : Array Bool) (a : Act) (w : World), S w → segB .any ops seg listed = true →
    wpQuiet P ops (fun w' => ∃ s : Cls S, w' = s.wd) (fun a' => wpAnyH P .any ops Q S fuel (markAll listed seg) a' w) (opsAt ops seg) a → wpAnyH P .any ops Q S (seg.length + fuel) listed a w
  | [], fuel, listed, a, w, _, _, h => by simpa [markAll, opsAt, wpQuiet] using h
  | i :: r, fuel, listed, a, w, hS, hB, h => by
    simp only [segB, Bool.and_eq_true] at hB
    obtain ⟨⟨⟨hr, hf⟩, hp⟩, hB⟩ := hB
    cases ho : ops[i]? with
    | none => rw [ho] at hp; simp at hp
    | some o =>
      rw [ho] at hp
      simp only [Option.map_some, Option.getD_some] at hp
      simp only [opsAt, ho, List.singleton_append, markAll] at h
      rw [show (i :: r).length + fuel = (r.length + fuel) + 1 by simp; omega]
      unfold wpQuiet at h
      split at h
      · rename_i hw
        obtain ⟨v, hv, hn⟩ := h
        exact wpAnyH_take ho hs hf hr (fun c a w hh => (hQ _ _ _ hh).elim) (.inl ⟨hw, quiet_yields hp hv⟩) hS (wpAnyH_seg hs hQ r fuel _ _ w hS hB hn)
      · rename_i hw
        exact wpAnyH_take ho hs hf hr (fun c a w hh => (hQ _ _ _ hh).elim) (.inr ⟨by simpa using hw, rfl⟩) hS (wpAnyH_seg hs hQ r fuel _ _ w hS hB h)

/-- A stronger condition. -/
theorem wpAnyH_imp {S' : World → Prop} (hi : ∀ w, S' w → S w) : ∀ (fuel : Nat) (listed : Array Bool) (a : Act) (w : World), wpAnyH P .any ops Q S' fuel listed a w → wpAnyH P .any ops Q S fuel listed a w
  | 0, _, _, _, h => h
  | fuel + 1, _, _, _, h => ⟨h.1, fun i hr => wpOp_mono (fun a' w' h' => ⟨hi _ h'.1, wpAnyH_imp hi fuel _ a' w' h'.2⟩) (h.2 i hr)⟩

/-- A CALL, when nothing else may come up: behind it the condition may be stronger. -/
theorem wpAnyH_call {i : Nat} {o : Oper} {f : FuncId} {args : Array Value} {fuel : Nat} {listed : Array Bool} {a : Act} {w : World} {R : Ending → World → Prop} (ho : ops[i]? = some o) (hr : Region.ready .any ops listed = [i])
    (hw : Region.wanted o (yielded ops a.tmps) = true) (hx : (execOp a.eval o).run P w = .ok (.enter f args) w) (hc : Calls P f args w R)
    (h : ∀ e w', R e w' → ∃ v, e = .returned v ∧ ∃ S' : World → Prop, (∀ x, S' x → S x) ∧ S' w' ∧ wpAnyH P .any ops Q S' fuel (listed.setIfInBounds i true) (a.put o.dst v) w') : wpAnyH P .any ops Q S (fuel + 1) listed a w := by
  refine wpAnyH_all hr (by simp) fun j hj => ?_
  simp only [List.mem_singleton] at hj
  subst hj
  unfold wpOp
  simp only [ho, hw, if_true]
  refine .inl ?_
  unfold Oper.wp
  rw [hx]
  simp only [Oper.upon]
  refine hc.mono fun e w' he => ?_
  obtain ⟨v, rfl, S', hi, hS, hn⟩ := h e w' he
  exact ⟨hi _ hS, wpAnyH_imp hi _ _ _ _ hn⟩

/-- Worlds that go on from W0: nothing that was there has turned. -/
def Ext (W0 W : World) : Prop := Below W0.heap.size W0 W
theorem Ext.refl (W : World) : Ext W W := Below.refl _ _
theorem Ext.trans {a b c : World} (h : Ext a b) (k : Ext b c) : Ext a c := Below.trans h (Below.mono k (Below.size h))

theorem wpAnyH_callE {W0 : World} {i : Nat} {o : Oper} {f : FuncId} {args : Array Value} {fuel : Nat} {listed : Array Bool} {a : Act} {w : World} {R : Ending → World → Prop} (d : Tmp) (ho : ops[i]? = some o) (hr : Region.ready .any ops listed = [i])
    (hd : o.dst = some d) (hE : Ext W0 w) (hw : Region.wanted o (yielded ops a.tmps) = true) (hx : (execOp a.eval o).run P w = .ok (.enter f args) w) (hc : Calls P f args w R)
    (h : ∀ e w', R e w' → ∃ v, e = .returned v ∧ Ext w w' ∧ wpAnyH P .any ops Q (Ext w') fuel (listed.setIfInBounds i true) (a.put (some d) v) w') : wpAnyH P .any ops Q (Ext W0) (fuel + 1) listed a w :=
  wpAnyH_call ho hr hw hx hc fun e w' he => by
    obtain ⟨v, hv, hb, hn⟩ := h e w' he
    exact ⟨v, hv, Ext w', fun x hx => hE.trans (hb.trans hx), Ext.refl _, by rw [hd]; exact hn⟩

theorem wp_region_ext {id : Nat} {a : Act} {w : World} (hm : P.follows .mixedOrders = true)
    (h : wpAnyH P .any ops (NoPanic Q) (Ext w.drew) ops.size (Array.replicate ops.size false) a w.drew) : (Code.region id ops true).wp P Q a w :=
  wp_region_noPanic (wp_region_held hm h)

theorem cls_ext (W : World) : Nonempty (Cls (Ext W)) := ⟨⟨W, Ext.refl W⟩⟩

/-- A cell, in each world that goes on from W0. -/
theorem cellX {W0 : World} {a : Addr} {v : Value} (h : W0.cell? a = some v) : ∀ s : Cls (Ext W0), s.wd.cell? a = some v := fun s => (Below.cell s.ok (World.block_lt_of_cell? W0 a h)).trans h

theorem wp_region_seg {id : Nat} {a : Act} {w : World} (S : World → Prop) (hm : P.follows .mixedOrders = true)
    (h : wpAnyH P .any ops (NoPanic Q) S ops.size (Array.replicate ops.size false) a w.drew) : (Code.region id ops true).wp P Q a w :=
  wp_region_noPanic (wp_region_held hm h)

/-- A call, when it comes up. -/
theorem wpOp_enter {K : Act → World → Prop} {i : Nat} {o : Oper} {a : Act} {w : World} {f : FuncId} {args : Array Value} {R : Ending → World → Prop} (d : Tmp) (ho : ops[i]? = some o) (hw : Region.wanted o (yielded ops a.tmps) = true) (hd : o.dst = some d) (hx : (execOp a.eval o).run P w = .ok (.enter f args) w) (hc : Calls P f args w R)
    (h : ∀ e w', R e w' → ∃ v, e = .returned v ∧ K (a.put (some d) v) w') : wpOp P ops Q i K a w := by
  unfold wpOp
  simp only [ho, hw, if_true]
  refine .inl ?_
  unfold Oper.wp
  rw [hx]
  simp only [Oper.upon]
  refine hc.mono fun e w' he => ?_
  obtain ⟨v, rfl, hk⟩ := h e w' he
  rw [hd]
  exact hk

end
end Go.Proofs.Ytkgecljoodofeaa

/- Queues: nil ones, new ones; the runs at the map. Own lemmas, no statement. -/
import Derived.Test.YtgoejoiomjmfaaaDue9
namespace Go.Proofs.Ytgoejoiomjmfaaa
open Go.ChangeShapes Go.WideShapes Go.ChangeAt Go.RowKit

section
variable {w : World} {b n : Nat} {f : Key → Option Nat}
def askV : Option Nat → Value
  | some x => iptr x
  | none => .pointer none
theorem GMap.ask (h : GMap w b n f) (q : Key) (hq : q.wf) : (Instr.lookup 49 (.map (some b)) (keyV q) true).run Try.prog w = .ok (.tuple #[askV (f q), .bool (f q).isSome]) w := by
  obtain ⟨D, h1, h2, h3⟩ := h
  obtain ⟨v, ps, hr, hv⟩ := h1.look_ok thingLaw Try.underlying49 (zeroP w) ptrElem_nil (keyOf_thing q hq)
  rw [hr]
  obtain ⟨e1, e2⟩ := h3 q hq
  rw [e1]
  rw [e2] at hv
  cases hf : f q with
  | none => rw [hf] at hv; rw [ptrElem_invNil hv]; rfl
  | some x => rw [hf] at hv; rw [ptrElem_inv hv]; rfl
theorem GMap.lay (h : GMap w b n f) (hn : n < maxLen) (q : Key) (hq : q.wf) (x : Nat) : ∃ w', (Instr.mapUpdate 49 (.map (some b)) (keyV q) (iptr x)).run Try.prog w = .ok () w' ∧ GMap w' b (n + 1) (putF f q x) ∧ Chg (fun k => k = b) w w' := by
  obtain ⟨D, h1, h2⟩ := h
  obtain ⟨w', hr, h3, h4⟩ := h1.update thingLaw Try.underlying49 hn (keyOf_thing q hq) (ptrElem_mk x)
  exact ⟨w', hr, ⟨_, h3, h2.put q hq x⟩, (Chg.refl _ _).grown h4 (fun k e _ => by cases e; rfl)⟩
theorem GMap.drop (h : GMap w b n f) (q : Key) (hq : q.wf) (ty : TypeId) : ∃ w', (Builtin.delete_ #[49, 55] ty #[.map (some b), keyV q]).run Try.prog w = .ok (.tuple #[]) w' ∧ GMap w' b n (delF f q) ∧ Chg (fun k => k = b) w w' := by
  obtain ⟨D, h1, h2⟩ := h
  obtain ⟨w', hr, h3, h4⟩ := h1.drop thingLaw Try.underlying49 (keyOf_thing q hq) ty
  exact ⟨w', hr, ⟨_, h3, h2.del q hq⟩, (Chg.refl _ _).grown h4.grown (fun k e _ => by cases e; rfl)⟩
end

def Ent.key (e : Ent) : Key := ⟨e.kind, e.num, e.node⟩

/-- A queue in block g that has the n entries of A; N stores into its map were made; none of its blocks lies below B. -/
structure QAt (B : Nat) (w : World) (g N n : Nat) (A : Nat → It) (v : Value) (mb : Nat) (f : Key → Option Nat) : Prop where
  ho : HO w g v (.map (some mb)) n A
  heap : IsHeap ltI n A
  map : GMap w mb N f
  has : ∀ i, i < n → f (A i).e.key = some (A i).blk
  back : ∀ q b, f q = some b → ∃ i, i < n ∧ (A i).blk = b ∧ (A i).e.key = q
  wf : ∀ i, i < n → (A i).e.key.wf
  low : ∀ k, (k = g ∨ k = mb ∨ OB v n A k) → B ≤ k

theorem set_nil (k t : Value) (a : Value) (w : World) (x y : Int) (ht : t = .agg #[.int .u64 x, .int .i64 y]) : Calls Try.prog 10 #[.pointer none, k, t, a] w fun e w' => e = .returned (.tuple #[]) ∧ Below w.heap.size w w' := by
  subst ht
  go_enter Try.func10, Try.ntmps10
  go_wp2_with fail
  refine bodyPost_ret (results_none rfl _ _ _) rfl ?_
  exact ⟨rfl, (Below.refl _ _).alloc (Nat.le_refl _) _⟩
theorem drop_nil (k t : Value) (w : World) (x y : Int) (ht : t = .agg #[.int .u64 x, .int .i64 y]) : Calls Try.prog 11 #[.pointer none, k, t] w fun e w' => e = .returned (.bool false) ∧ Below w.heap.size w w' := by
  subst ht
  go_enter Try.func11, Try.ntmps11
  go_wp2_with fail
  go_ret
  exact ⟨rfl, (Below.refl _ _).alloc (Nat.le_refl _) _⟩
theorem when_nil (k t : Value) (w : World) (x y : Int) (ht : t = .agg #[.int .u64 x, .int .i64 y]) : Calls Try.prog 12 #[.pointer none, k, t] w fun e w' => e = .returned (.tuple #[.int .i64 0, .bool false]) ∧ Below w.heap.size w w' := by
  subst ht
  go_enter Try.func12, Try.ntmps12
  go_wp2_with fail
  go_ret2
  exact ⟨rfl, (Below.refl _ _).alloc (Nat.le_refl _) _⟩
theorem len_nil (w : World) : Calls Try.prog 15 #[.pointer none] w fun e w' => e = .returned (.int .i64 0) ∧ w' = w := by
  go_enter Try.func15, Try.ntmps15
  go_wp2_with fail
  go_ret
  exact ⟨rfl, rfl⟩
theorem len_any {B : Nat} {w : World} {g N n : Nat} {A : Nat → It} {v : Value} {mb : Nat} {f : Key → Option Nat} (h : QAt B w g N n A v mb f) : Calls Try.prog 15 #[iptr g] w fun e w' => e = .returned (.int .i64 (n : Int)) ∧ w' = w := by
  obtain ⟨ao, c, rfl⟩ := h.ho.l.form
  have c0 : w.cell? ⟨g, 0, none⟩ = some (.slice ao n c) := h.ho.q.cell 0
  clear h
  unfold iptr
  go_enter Try.func15, Try.ntmps15
  go_wp2_with fail
  go_ret
  exact ⟨rfl, rfl⟩
end Go.Proofs.Ytgoejoiomjmfaaa

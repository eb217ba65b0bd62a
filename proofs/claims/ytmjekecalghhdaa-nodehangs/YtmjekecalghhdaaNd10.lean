/- A page's clone in a block of its own, beside the page itself: what node's Put, Drop, Hang, Turn, Unhang go through. Own lemmas, no statement. -/
import Derived.Test.YtmjekecalghhdaaNd9
import Derived.Test.YtmjekecalghhdaaIns3
set_option linter.unusedSimpArgs false
set_option linter.unusedVariables false
namespace Go.Proofs.Ytmjekecalghhdaa
open Go.ChangeShapes Go.WideShapes Go.ChangeAt Go.RowKit

theorem lt_some {α : Type} {l : List α} {i : Nat} (h : l[i]?.isSome = true) : i < l.length := by
  obtain ⟨x, hx⟩ := Option.isSome_iff_exists.1 h
  exact (List.getElem?_eq_some_iff.1 hx).1
/-- Where such a call stands: the page that came in, the result's block, the clone with its rows. -/
structure PS (w W : World) (b : Nat) (p po : Pg) (kv1 vv1 dv1 kv vv dv : Value) : Prop where
  A : PBox W w.heap.size p kv1 vv1 dv1
  R : Blk W (w.heap.size + 1) zeroC 25
  Y : Below w.heap.size w W
  S : w.heap.size + 2 ≤ W.heap.size
  X : Box W (w.heap.size + 2) b po kv vv dv
section
variable {w W W' : World} {b : Nat} {p po : Pg} {kv1 vv1 dv1 kv vv dv v' : Value} {o : Obj}
theorem PS.below (h : PS w W b p po kv1 vv1 dv1 kv vv dv) (x : Below W.heap.size W W') : PS w W' b p po kv1 vv1 dv1 kv vv dv :=
  ⟨h.A.below x, Blk.of h.R (x.block _ h.R.lt), ext_trans h.Y x, Nat.le_trans h.S x.size, h.X.below x⟩
theorem ps_first {w0 w1 : World} (A : PBox w0 w.heap.size p kv1 vv1 dv1) (R : Blk w0 (w.heap.size + 1) zeroC 25) (Y : Below w.heap.size w w0) (S : w.heap.size + 2 ≤ w0.heap.size) (ho : PgO w1 (w.heap.size + 2) p kv vv dv) (y : Below w0.heap.size w0 w1) :
    PS w (w1.alloc (.cells (pgc p kv vv dv) 25)) w1.heap.size p p kv1 vv1 dv1 kv vv dv := by
  have hw1 : w.heap.size + 2 ≤ w1.heap.size := Nat.le_trans S y.size
  refine ⟨PBox.below (A.below y) ((Below.refl _ _).alloc (Nat.le_refl _) _), (Blk.of R (y.block _ R.lt)).alloc _, (ext_trans Y y).alloc (ext_trans Y y).size _, by simp; omega, ⟨Blk.new _ _ _, ho.below ((Below.refl _ _).alloc (Nat.le_refl _) _), hw1, fun e => by have := (ho.keys.blk _ e).2; omega, fun e => by have := (ho.vals.blk _ e).2; omega, fun e => by have := (ho.kids.blk _ e).2; omega⟩⟩
theorem PS.push (h : PS w W b p po kv1 vv1 dv1 kv vv dv) {v : Value} {i : Nat} {po' : Pg} {k2 v2 d2 : Value} (hv : ∀ g, v.ownBlock = some g → w.heap.size + 2 ≤ g) (hg : (W.alloc o).grownBy W' v.ownBlock) (X' : Box (W'.setCell ⟨b, i, none⟩ v') (w.heap.size + 2) b po' k2 v2 d2) : PS w (W'.setCell ⟨b, i, none⟩ v') b p po' kv1 vv1 dv1 k2 v2 d2 := by
  have hS := h.S
  have hb := h.X.hb
  have hsz := hg.size
  simp only [World.alloc, Array.size_push] at hsz
  refine ⟨Blk.of h.A (turn_kept hg _ (Blk.lt h.A) (fun e => by have := hv _ e; omega) (by omega) _), Blk.of h.R (turn_kept hg _ (Blk.lt h.R) (fun e => by have := hv _ e; omega) (by omega) _), push_below h.Y (by omega) (fun g e => by have := hv g e; omega) (by omega) hg _, by simp [World.setCell]; omega, X'⟩
theorem PS.insK (h : PS w W b p po kv1 vv1 dv1 kv vv dv) {ks : List ByteArray} (ho : OwnV W' (w.heap.size + 2) 9 v' (sv ks)) (hat : v'.ownBlock = kv.ownBlock ∨ v'.ownBlock = some (W.heap.size + 1)) (hg : (W.alloc o).grownBy W' kv.ownBlock) : PS w (W'.setCell ⟨b, 1, none⟩ v') b p { po with keys := ks } kv1 vv1 dv1 v' vv dv :=
  h.push (fun g e => (h.X.own.keys.blk g e).1) hg (h.X.pushK ho hg hat)
theorem PS.insV (h : PS w W b p po kv1 vv1 dv1 kv vv dv) {ks : List ByteArray} (ho : OwnV W' (w.heap.size + 2) 9 v' (sv ks)) (hat : v'.ownBlock = vv.ownBlock ∨ v'.ownBlock = some (W.heap.size + 1)) (hg : (W.alloc o).grownBy W' vv.ownBlock) : PS w (W'.setCell ⟨b, 2, none⟩ v') b p { po with vals := ks } kv1 vv1 dv1 kv v' dv :=
  h.push (fun g e => (h.X.own.vals.blk g e).1) hg (h.X.pushV ho hg hat)
theorem PS.insD (h : PS w W b p po kv1 vv1 dv1 kv vv dv) {ks : List Int} (ho : OwnV W' (w.heap.size + 2) 3 v' (iv ks)) (hat : v'.ownBlock = dv.ownBlock ∨ v'.ownBlock = some (W.heap.size + 1)) (hg : (W.alloc o).grownBy W' dv.ownBlock) : PS w (W'.setCell ⟨b, 3, none⟩ v') b p { po with kids := ks } kv1 vv1 dv1 kv vv v' :=
  h.push (fun g e => (h.X.own.kids.blk g e).1) hg (h.X.pushD ho hg hat)
theorem PS.join (h : PS w W b p po kv1 vv1 dv1 kv vv dv) {v : Value} {i : Nat} {po' : Pg} {k2 v2 d2 : Value} (hv : ∀ g, v.ownBlock = some g → w.heap.size + 2 ≤ g) (hg : W.grownBy W' v.ownBlock) (X' : Box (W'.setCell ⟨b, i, none⟩ v') (w.heap.size + 2) b po' k2 v2 d2) : PS w (W'.setCell ⟨b, i, none⟩ v') b p po' kv1 vv1 dv1 k2 v2 d2 := by
  have hS := h.S
  have hb := h.X.hb
  have hsz := hg.size
  refine ⟨Blk.of h.A (join_kept hg _ (Blk.lt h.A) (fun e => by have := hv _ e; omega) (by omega) _), Blk.of h.R (join_kept hg _ (Blk.lt h.R) (fun e => by have := hv _ e; omega) (by omega) _), join_below h.Y (by omega) (fun g e => by have := hv g e; omega) (by omega) hg _, by simp [World.setCell]; omega, X'⟩
theorem PS.delK (h : PS w W b p po kv1 vv1 dv1 kv vv dv) {ks : List ByteArray} (ho : OwnV W' (w.heap.size + 2) 9 v' (sv ks)) (hat : v'.ownBlock = kv.ownBlock) (hg : W.grownBy W' kv.ownBlock) : PS w (W'.setCell ⟨b, 1, none⟩ v') b p { po with keys := ks } kv1 vv1 dv1 v' vv dv :=
  h.join (fun g e => (h.X.own.keys.blk g e).1) hg (h.X.joinK ho hg (.inl hat))
theorem PS.delV (h : PS w W b p po kv1 vv1 dv1 kv vv dv) {ks : List ByteArray} (ho : OwnV W' (w.heap.size + 2) 9 v' (sv ks)) (hat : v'.ownBlock = vv.ownBlock) (hg : W.grownBy W' vv.ownBlock) : PS w (W'.setCell ⟨b, 2, none⟩ v') b p { po with vals := ks } kv1 vv1 dv1 kv v' dv :=
  h.join (fun g e => (h.X.own.vals.blk g e).1) hg (h.X.joinV ho hg (.inl hat))
theorem PS.delD (h : PS w W b p po kv1 vv1 dv1 kv vv dv) {ks : List Int} (ho : OwnV W' (w.heap.size + 2) 3 v' (iv ks)) (hat : v'.ownBlock = dv.ownBlock) (hg : W.grownBy W' dv.ownBlock) : PS w (W'.setCell ⟨b, 3, none⟩ v') b p { po with kids := ks } kv1 vv1 dv1 kv vv v' :=
  h.join (fun g e => (h.X.own.kids.blk g e).1) hg (h.X.joinD ho hg (.inl hat))
theorem Box.preJ {B : Nat} (h : Box W B b po kv vv dv) {v : Value} (hv : v.ownBlock ≠ some b) (hg : W.grownBy W' v.ownBlock) : PBox W' b po kv vv dv :=
  Blk.of h.box (hg.block b (Blk.lt h.box) (fun e => hv e.symm))
/-- One text of an own row is turned. -/
theorem own_set1 {B : Nat} {v : Value} {ks : List ByteArray} {i : Nat} (h : OwnV W B 9 v (sv ks)) (hi : i < ks.length) (x : ByteArray) :
    ∃ g cap, v = .slice (some ⟨g, 0, none⟩) ks.length cap ∧ B ≤ g ∧ (W.cell? ⟨g, i, none⟩).isSome = true ∧ W.frozen? ⟨g, i, none⟩ = false ∧ OwnV (W.setCell ⟨g, i, none⟩ (.string x)) B 9 v (sv (ks.set i x)) := by
  have hkl : (sv ks).length = ks.length := sv_length ks
  rcases h.2 with ⟨_, hn⟩ | ⟨g, cap, cur, rfl, hb, hg, hnc, hcm, hcs, ht⟩
  · omega
  · rw [hkl] at hnc ht ⊢
    rw [Nat.mul_one] at hcs ht
    have hG : Blk W g cur 9 := hg
    refine ⟨g, cap, rfl, hb, by rw [hG.cell]; simp; omega, hG.frozen _, ?_⟩
    refine own_of (hG.set i _) hb (by rw [sv_length, List.length_set]) hnc hcm (by simp; omega) ?_
    rw [Array.toList_setIfInBounds, List.take_set, ht]
    unfold sv
    rw [List.map_set]
theorem PS.cellV (h : PS w W b p po kv1 vv1 dv1 kv vv dv) {i : Nat} (hi : i < po.vals.length) (x : ByteArray) :
    ∃ g cap u, vv = .slice (some ⟨g, 0, none⟩) po.vals.length cap ∧ W.cell? ⟨g, i, none⟩ = some u ∧ W.frozen? ⟨g, i, none⟩ = false ∧ PS w (W.setCell ⟨g, i, none⟩ (.string x)) b p { po with vals := po.vals.set i x } kv1 vv1 dv1 kv vv dv := by
  obtain ⟨g, cap, rfl, hb, h1, h2, h3⟩ := own_set1 h.X.own.vals hi x
  obtain ⟨u, hu⟩ := Option.isSome_iff_exists.1 h1
  refine ⟨g, cap, u, rfl, hu, h2, ?_⟩
  have hS := h.S
  have hk : ∀ j, j ≠ g → (W.setCell ⟨g, i, none⟩ (.string x)).heap[j]? = W.heap[j]? := fun j hj => Below.heap_setCell _ _ _ _ hj
  have hgb : g ≠ b := fun e => h.X.nv (by rw [← e]; rfl)
  refine ⟨Blk.of h.A (hk _ (by omega)), Blk.of h.R (hk _ (by omega)), h.Y.setCell (by show _ ≤ g; omega) _, by simp [World.setCell]; omega, ⟨Blk.of h.X.box (hk _ (Ne.symm hgb)), ⟨h.X.own.keys.kept fun j e => hk j fun e' => h.X.own.fkv j e (by rw [e']; rfl), h3, h.X.own.kids.kept fun j e => hk j fun e' => h.X.own.fvd j (by rw [e']; rfl) e, h.X.own.fkv, h.X.own.fkd, h.X.own.fvd⟩, h.X.hb, h.X.nk, h.X.nv, h.X.nd⟩⟩
theorem PS.cellK (h : PS w W b p po kv1 vv1 dv1 kv vv dv) {i : Nat} (hi : i < po.keys.length) (x : ByteArray) :
    ∃ g cap u, kv = .slice (some ⟨g, 0, none⟩) po.keys.length cap ∧ W.cell? ⟨g, i, none⟩ = some u ∧ W.frozen? ⟨g, i, none⟩ = false ∧ PS w (W.setCell ⟨g, i, none⟩ (.string x)) b p { po with keys := po.keys.set i x } kv1 vv1 dv1 kv vv dv := by
  obtain ⟨g, cap, rfl, hb, h1, h2, h3⟩ := own_set1 h.X.own.keys hi x
  obtain ⟨u, hu⟩ := Option.isSome_iff_exists.1 h1
  refine ⟨g, cap, u, rfl, hu, h2, ?_⟩
  have hS := h.S
  have hk : ∀ j, j ≠ g → (W.setCell ⟨g, i, none⟩ (.string x)).heap[j]? = W.heap[j]? := fun j hj => Below.heap_setCell _ _ _ _ hj
  have hgb : g ≠ b := fun e => h.X.nk (by rw [← e]; rfl)
  refine ⟨Blk.of h.A (hk _ (by omega)), Blk.of h.R (hk _ (by omega)), h.Y.setCell (by show _ ≤ g; omega) _, by simp [World.setCell]; omega, ⟨Blk.of h.X.box (hk _ (Ne.symm hgb)), ⟨h3, h.X.own.vals.kept fun j e => hk j fun e' => h.X.own.fkv j (by rw [e']; rfl) e, h.X.own.kids.kept fun j e => hk j fun e' => h.X.own.fkd j (by rw [e']; rfl) e, h.X.own.fkv, h.X.own.fkd, h.X.own.fvd⟩, h.X.hb, h.X.nk, h.X.nv, h.X.nd⟩⟩
/-- The result is laid. -/
theorem PS.done (h : PS w W b p po kv1 vv1 dv1 kv vv dv) :
    PBox (put8 W (w.heap.size + 1) (.int .i64 po.kind) kv vv dv (.int .i64 po.root) (.int .i64 po.next) (.int .i64 po.size) (.int .i64 po.idle)) (w.heap.size + 1) po kv vv dv ∧ Below w.heap.size w (put8 W (w.heap.size + 1) (.int .i64 po.kind) kv vv dv (.int .i64 po.root) (.int .i64 po.next) (.int .i64 po.size) (.int .i64 po.idle)) ∧ PgAt (put8 W (w.heap.size + 1) (.int .i64 po.kind) kv vv dv (.int .i64 po.root) (.int .i64 po.next) (.int .i64 po.size) (.int .i64 po.idle)) po kv vv dv :=
  ⟨blk_set8 _ _ _ _ _ _ _ _ h.R, put8_below h.Y (by omega) _ _ _ _ _ _ _ _, (h.X.own.keep h.X.own.inP (fun g a _ => put8_other _ _ _ _ _ _ _ _ _ _ _ (by omega))).at⟩
end
end Go.Proofs.Ytmjekecalghhdaa

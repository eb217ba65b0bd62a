/- Pages in blocks of their own, whose lists are a call's own rows and grow by append. Own lemmas, no statement. -/
import Derived.Test.YtbgofajldkblmaaGreatPg2
namespace Go.Proofs.YtbgofajldkblmaaGreat
open Go.ChangeShapes Go.WideShapes Go.ChangeAt Go.RowKit

/-- The blocks of a page in memory. -/
def fp (b : Nat) (kv vv dv : Value) (g : Nat) : Prop := g = b ∨ kv.ownBlock = some g ∨ vv.ownBlock = some g ∨ dv.ownBlock = some g

structure Box (W : World) (B b : Nat) (p : Pg) (kv vv dv : Value) : Prop where
  box : PBox W b p kv vv dv
  own : PgO W B p kv vv dv
  hb : B ≤ b
  nk : kv.ownBlock ≠ some b
  nv : vv.ownBlock ≠ some b
  nd : dv.ownBlock ≠ some b

section
variable {W W' : World} {B b b' : Nat} {p q : Pg} {kv vv dv kv' vv' dv' v' : Value} {o : Obj}
theorem Box.lt (h : Box W B b p kv vv dv) {g : Nat} (hg : fp b kv vv dv g) : B ≤ g ∧ g < W.heap.size := by
  rcases hg with rfl | hg | hg | hg
  · exact ⟨h.hb, Blk.lt h.box⟩
  · exact h.own.keys.blk g hg
  · exact h.own.vals.blk g hg
  · exact h.own.kids.blk g hg
theorem Box.keep (h : Box W B b p kv vv dv) (hk : ∀ g, fp b kv vv dv g → W'.heap[g]? = W.heap[g]?) : Box W' B b p kv vv dv :=
  ⟨Blk.of h.box (hk b (.inl rfl)), ⟨h.own.keys.kept (fun g hg => hk g (.inr (.inl hg))), h.own.vals.kept (fun g hg => hk g (.inr (.inr (.inl hg)))), h.own.kids.kept (fun g hg => hk g (.inr (.inr (.inr hg)))), h.own.fkv, h.own.fkd, h.own.fvd⟩, h.hb, h.nk, h.nv, h.nd⟩
theorem Box.below (h : Box W B b p kv vv dv) (hb : Below W.heap.size W W') : Box W' B b p kv vv dv := h.keep fun g hg => hb.block g (h.lt hg).2

/-- What an append to one list, stored into the page, has turned. -/
theorem turn_kept {v : Value} {i : Nat} (hg : (W.alloc o).grownBy W' v.ownBlock) (g : Nat) (h1 : g < W.heap.size) (h2 : v.ownBlock ≠ some g) (h3 : g ≠ b) (u : Value) : (W'.setCell ⟨b, i, none⟩ u).heap[g]? = W.heap[g]? := by
  rw [Below.heap_setCell _ _ _ _ (by exact h3), hg.block g (by simp; omega) (fun e => h2 e.symm), Below.heap_alloc _ _ _ h1]
theorem ownV_set {w : World} {T : TypeId} {v : Value} {us : List Value} {i : Nat} {u : Value} (h : OwnV w B T v us) (hn : v.ownBlock ≠ some b) : OwnV (w.setCell ⟨b, i, none⟩ u) B T v us :=
  h.kept fun g hg => Below.heap_setCell _ _ _ _ (by rintro rfl; exact hn hg)

theorem Box.pushK (h : Box W B b p kv vv dv) {ks : List ByteArray} (ho : OwnV W' B 9 v' (sv ks)) (hg : (W.alloc o).grownBy W' kv.ownBlock) (hat : v'.ownBlock = kv.ownBlock ∨ v'.ownBlock = some (W.heap.size + 1)) :
    Box (W'.setCell ⟨b, 1, none⟩ v') B b { p with keys := ks } v' vv dv := by
  have hb := Blk.lt h.box
  have hne : v'.ownBlock ≠ some b := fun e => by
    rcases hat with e' | e'
    · rw [e'] at e; exact h.nk e
    · rw [e'] at e; simp at e; omega
  have hf : ∀ {x : Value} {T : TypeId} {us : List Value}, OwnV W B T x us → far kv x → far v' x := fun hx hf g h1 h2 => by
    rcases hat with e' | e'
    · rw [e'] at h1; exact hf g h1 h2
    · rw [e'] at h1; have := (hx.blk g h2).2; simp at h1; omega
  have hbox : PBox W' b p kv vv dv := Blk.of h.box (by rw [hg.block b (by simp; omega) (fun e => h.nk e.symm), Below.heap_alloc _ _ _ hb])
  refine ⟨Blk.set hbox 1 _, ⟨ownV_set ho hne, h.own.vals.kept fun g hx => ?_, h.own.kids.kept fun g hx => ?_, hf h.own.vals h.own.fkv, hf h.own.kids h.own.fkd, h.own.fvd⟩, h.hb, hne, h.nv, h.nd⟩
  · exact turn_kept hg g (h.own.vals.blk g hx).2 (fun e => h.own.fkv g e hx) (by rintro rfl; exact h.nv hx) _
  · exact turn_kept hg g (h.own.kids.blk g hx).2 (fun e => h.own.fkd g e hx) (by rintro rfl; exact h.nd hx) _
theorem Box.pushV (h : Box W B b p kv vv dv) {ks : List ByteArray} (ho : OwnV W' B 9 v' (sv ks)) (hg : (W.alloc o).grownBy W' vv.ownBlock) (hat : v'.ownBlock = vv.ownBlock ∨ v'.ownBlock = some (W.heap.size + 1)) :
    Box (W'.setCell ⟨b, 2, none⟩ v') B b { p with vals := ks } kv v' dv := by
  have hb := Blk.lt h.box
  have hne : v'.ownBlock ≠ some b := fun e => by
    rcases hat with e' | e'
    · rw [e'] at e; exact h.nv e
    · rw [e'] at e; simp at e; omega
  have hf : ∀ {x : Value} {T : TypeId} {us : List Value}, OwnV W B T x us → far vv x → far v' x := fun hx hf g h1 h2 => by
    rcases hat with e' | e'
    · rw [e'] at h1; exact hf g h1 h2
    · rw [e'] at h1; have := (hx.blk g h2).2; simp at h1; omega
  have hbox : PBox W' b p kv vv dv := Blk.of h.box (by rw [hg.block b (by simp; omega) (fun e => h.nv e.symm), Below.heap_alloc _ _ _ hb])
  refine ⟨Blk.set hbox 2 _, ⟨h.own.keys.kept fun g hx => ?_, ownV_set ho hne, h.own.kids.kept fun g hx => ?_, (hf h.own.keys h.own.fkv.symm).symm, h.own.fkd, hf h.own.kids h.own.fvd⟩, h.hb, h.nk, hne, h.nd⟩
  · exact turn_kept hg g (h.own.keys.blk g hx).2 (fun e => h.own.fkv g hx e) (by rintro rfl; exact h.nk hx) _
  · exact turn_kept hg g (h.own.kids.blk g hx).2 (fun e => h.own.fvd g e hx) (by rintro rfl; exact h.nd hx) _
theorem Box.pushD (h : Box W B b p kv vv dv) {ks : List Int} (ho : OwnV W' B 3 v' (iv ks)) (hg : (W.alloc o).grownBy W' dv.ownBlock) (hat : v'.ownBlock = dv.ownBlock ∨ v'.ownBlock = some (W.heap.size + 1)) :
    Box (W'.setCell ⟨b, 3, none⟩ v') B b { p with kids := ks } kv vv v' := by
  have hb := Blk.lt h.box
  have hne : v'.ownBlock ≠ some b := fun e => by
    rcases hat with e' | e'
    · rw [e'] at e; exact h.nd e
    · rw [e'] at e; simp at e; omega
  have hf : ∀ {x : Value} {T : TypeId} {us : List Value}, OwnV W B T x us → far dv x → far v' x := fun hx hf g h1 h2 => by
    rcases hat with e' | e'
    · rw [e'] at h1; exact hf g h1 h2
    · rw [e'] at h1; have := (hx.blk g h2).2; simp at h1; omega
  have hbox : PBox W' b p kv vv dv := Blk.of h.box (by rw [hg.block b (by simp; omega) (fun e => h.nd e.symm), Below.heap_alloc _ _ _ hb])
  refine ⟨Blk.set hbox 3 _, ⟨h.own.keys.kept fun g hx => ?_, h.own.vals.kept fun g hx => ?_, ownV_set ho hne, h.own.fkv, (hf h.own.keys h.own.fkd.symm).symm, (hf h.own.vals h.own.fvd.symm).symm⟩, h.hb, h.nk, h.nv, hne⟩
  · exact turn_kept hg g (h.own.keys.blk g hx).2 (fun e => h.own.fkd g hx e) (by rintro rfl; exact h.nk hx) _
  · exact turn_kept hg g (h.own.vals.blk g hx).2 (fun e => h.own.fvd g hx e) (by rintro rfl; exact h.nv hx) _

/-- The page's block itself, ahead of the store. -/
theorem Box.pre (h : Box W B b p kv vv dv) {v : Value} (hv : v.ownBlock ≠ some b) (hg : (W.alloc o).grownBy W' v.ownBlock) : PBox W' b p kv vv dv :=
  Blk.of h.box (by rw [hg.block b (by have := Blk.lt h.box; simp; omega) (fun e => hv e.symm), Below.heap_alloc _ _ _ (Blk.lt h.box)])

/-- Two pages have no block together. -/
def Dis (b : Nat) (kv vv dv : Value) (b' : Nat) (kv' vv' dv' : Value) : Prop := ∀ g, fp b kv vv dv g → ¬ fp b' kv' vv' dv' g
theorem Dis.symm (h : Dis b kv vv dv b' kv' vv' dv') : Dis b' kv' vv' dv' b kv vv dv := fun g h1 h2 => h g h2 h1
theorem Dis.pushK (h : Dis b kv vv dv b' kv' vv' dv') (k : Box W B b' q kv' vv' dv') (hat : v'.ownBlock = kv.ownBlock ∨ v'.ownBlock = some (W.heap.size + 1)) : Dis b v' vv dv b' kv' vv' dv' := fun g hg hx => by
  rcases hg with e | e | e | e
  · exact h g (.inl e) hx
  · rcases hat with e' | e'
    · rw [e'] at e; exact h g (.inr (.inl e)) hx
    · rw [e'] at e; have := (k.lt hx).2; simp at e; omega
  · exact h g (.inr (.inr (.inl e))) hx
  · exact h g (.inr (.inr (.inr e))) hx
theorem Dis.pushV (h : Dis b kv vv dv b' kv' vv' dv') (k : Box W B b' q kv' vv' dv') (hat : v'.ownBlock = vv.ownBlock ∨ v'.ownBlock = some (W.heap.size + 1)) : Dis b kv v' dv b' kv' vv' dv' := fun g hg hx => by
  rcases hg with e | e | e | e
  · exact h g (.inl e) hx
  · exact h g (.inr (.inl e)) hx
  · rcases hat with e' | e'
    · rw [e'] at e; exact h g (.inr (.inr (.inl e))) hx
    · rw [e'] at e; have := (k.lt hx).2; simp at e; omega
  · exact h g (.inr (.inr (.inr e))) hx
theorem Dis.pushD (h : Dis b kv vv dv b' kv' vv' dv') (k : Box W B b' q kv' vv' dv') (hat : v'.ownBlock = dv.ownBlock ∨ v'.ownBlock = some (W.heap.size + 1)) : Dis b kv vv v' b' kv' vv' dv' := fun g hg hx => by
  rcases hg with e | e | e | e
  · exact h g (.inl e) hx
  · exact h g (.inr (.inl e)) hx
  · exact h g (.inr (.inr (.inl e))) hx
  · rcases hat with e' | e'
    · rw [e'] at e; exact h g (.inr (.inr (.inr e))) hx
    · rw [e'] at e; have := (k.lt hx).2; simp at e; omega
/-- Another page is where it was. -/
theorem Box.other (k : Box W B b' q kv' vv' dv') {v : Value} {i : Nat} (hd : Dis b kv vv dv b' kv' vv' dv') (hv : ∀ g, v.ownBlock = some g → fp b kv vv dv g) (hg : (W.alloc o).grownBy W' v.ownBlock) (u : Value) : Box (W'.setCell ⟨b, i, none⟩ u) B b' q kv' vv' dv' :=
  k.keep fun g hx => turn_kept hg g (k.lt hx).2 (fun e => hd g (hv g e) hx) (fun e => hd g (.inl e) hx) u
/-- Nothing below has turned. -/
theorem push_below {a : World} {v : Value} {i : Nat} (h : Below B a W) (hB : B ≤ W.heap.size) (hv : ∀ g, v.ownBlock = some g → B ≤ g) (hb : B ≤ b) (hg : (W.alloc o).grownBy W' v.ownBlock) (u : Value) : Below B a (W'.setCell ⟨b, i, none⟩ u) :=
  ((h.alloc hB _).grown hg (by simp; omega) hv).setCell hb _
end

/-- 'append(l, x)' of one text, l the call's own: x has just been laid in a block of its own. -/
theorem wpList_pushS {ops : Array Oper} {rest : List Oper} {o : Oper} {a : Act} {Q : Exit → Act → World → Prop} (W : World) (hgd : o.guard = none) (s x : Operand)
    (ho : o.op = .call { callee := .builtin .append, args := #[s, x], argTypes := #[26, 26] })
    (B : Nat) (v : Value) (ks : List ByteArray) (k : ByteArray) (hown : OwnV W B 9 v (sv ks)) (hs : a.eval s = v) (hx : a.eval x = .slice (some ⟨W.heap.size, 0, none⟩) 1 1)
    (hl : ks.length < 1099511627776) (hB : B ≤ W.heap.size)
    (hK : ∀ a' n' c' W', n' = ks.length + 1 → OwnV W' B 9 (.slice a' n' c') (sv (ks ++ [k])) → (W.alloc (.cells #[.string k] 9)).grownBy W' v.ownBlock → ((Value.slice a' n' c').ownBlock = v.ownBlock ∨ (Value.slice a' n' c').ownBlock = some (W.heap.size + 1)) → wpList Tryz.prog ops Q rest (a.put o.dst (.slice a' n' c')) W') :
    wpList Tryz.prog ops Q (o :: rest) a (W.alloc (.cells #[.string k] 9)) := by
  obtain ⟨i0, hi, hz0, hz1, hz2⟩ := info_parts infoS
  refine wpList_append_own_at _ hgd s x 26 ho B 9 i0 (.string ⟨#[]⟩) 1 16 Tryz.underlying26 hi hz0 hz1 hz2 rfl (by decide) v (sv ks).length (sv ks) hs (World.ownsRow.alloc hown _) ⟨W.heap.size, 0, none⟩ 1 1 [.string k] hx rfl (cell_one_new _ _ _) (by intro u hu; simp at hu; subst hu; rfl) (by rw [sv_length]; unfold maxLen; omega) (by rw [sv_length]; omega) (by simp; omega) ?_
  intro v' w' h1 h2 _ h4
  have h5 : OwnV w' B 9 v' (sv (ks ++ [k])) := by
    unfold OwnV
    simpa [sv] using h1
  obtain ⟨a', c', rfl⟩ := h5.rd.form
  exact hK a' _ c' w' (by simp [sv]) h5 h2 (by simpa using h4)
theorem wpList_pushI {ops : Array Oper} {rest : List Oper} {o : Oper} {a : Act} {Q : Exit → Act → World → Prop} (W : World) (hgd : o.guard = none) (s x : Operand)
    (ho : o.op = .call { callee := .builtin .append, args := #[s, x], argTypes := #[25, 25] })
    (B : Nat) (v : Value) (ks : List Int) (k : Int) (hown : OwnV W B 3 v (iv ks)) (hs : a.eval s = v) (hx : a.eval x = .slice (some ⟨W.heap.size, 0, none⟩) 1 1)
    (hl : ks.length < 1099511627776) (hB : B ≤ W.heap.size)
    (hK : ∀ a' n' c' W', n' = ks.length + 1 → OwnV W' B 3 (.slice a' n' c') (iv (ks ++ [k])) → (W.alloc (.cells #[.int .i64 k] 3)).grownBy W' v.ownBlock → ((Value.slice a' n' c').ownBlock = v.ownBlock ∨ (Value.slice a' n' c').ownBlock = some (W.heap.size + 1)) → wpList Tryz.prog ops Q rest (a.put o.dst (.slice a' n' c')) W') :
    wpList Tryz.prog ops Q (o :: rest) a (W.alloc (.cells #[.int .i64 k] 3)) := by
  obtain ⟨i0, hi, hz0, hz1, hz2⟩ := info_parts infoI
  refine wpList_append_own_at _ hgd s x 25 ho B 3 i0 (.int .i64 0) 1 8 Tryz.underlying25 hi hz0 hz1 hz2 rfl (by decide) v (iv ks).length (iv ks) hs (World.ownsRow.alloc hown _) ⟨W.heap.size, 0, none⟩ 1 1 [.int .i64 k] hx rfl (cell_one_new _ _ _) (by intro u hu; simp at hu; subst hu; rfl) (by rw [iv_length]; unfold maxLen; omega) (by rw [iv_length]; omega) (by simp; omega) ?_
  intro v' w' h1 h2 _ h4
  have h5 : OwnV w' B 3 v' (iv (ks ++ [k])) := by
    unfold OwnV
    simpa [iv] using h1
  obtain ⟨a', c', rfl⟩ := h5.rd.form
  exact hK a' _ c' w' (by simp [iv]) h5 h2 (by simpa using h4)
end Go.Proofs.YtbgofajldkblmaaGreat

/- Two clones of a page in blocks of their own: what node's splits begin with. Own lemmas, no statement. -/
import Derived.Test.YtmjekecalghhdaaNd3
set_option linter.unusedSimpArgs false
set_option linter.unusedVariables false
namespace Go.Proofs.Ytmjekecalghhdaa
open Go.ChangeShapes Go.WideShapes Go.ChangeAt Go.RowKit

def zeroC : Array Value := #[.int .i64 0, .slice none 0 0, .slice none 0 0, .slice none 0 0, .int .i64 0, .int .i64 0, .int .i64 0, .int .i64 0]
theorem exec_allocP {ρ : Operand → Value} {o : Oper} {w : World} (ho : o.op = .alloc 25) : (execOp ρ o).run Try.prog w = .ok (.value (.pointer (some ⟨w.heap.size, 0, none⟩))) (w.alloc (.cells zeroC 25)) := by
  unfold execOp
  rw [ho]
  go_simp
  rfl

/-- A page's rows lie in blocks from l on, below h. -/
structure InP (l h : Nat) (kv vv dv : Value) : Prop where
  k : ∀ g, kv.ownBlock = some g → l ≤ g ∧ g < h
  v : ∀ g, vv.ownBlock = some g → l ≤ g ∧ g < h
  d : ∀ g, dv.ownBlock = some g → l ≤ g ∧ g < h
theorem PgO.inP {W : World} {B : Nat} {p : Pg} {kv vv dv : Value} (h : PgO W B p kv vv dv) : InP B W.heap.size kv vv dv := ⟨h.keys.blk, h.vals.blk, h.kids.blk⟩
theorem PgO.keep {W W' : World} {B l h : Nat} {p : Pg} {kv vv dv : Value} (o : PgO W B p kv vv dv) (i : InP l h kv vv dv) (hk : ∀ g, l ≤ g → g < h → W'.heap[g]? = W.heap[g]?) : PgO W' B p kv vv dv :=
  ⟨o.keys.kept fun g e => hk g (i.k g e).1 (i.k g e).2, o.vals.kept fun g e => hk g (i.v g e).1 (i.v g e).2, o.kids.kept fun g e => hk g (i.d g e).1 (i.d g e).2, o.fkv, o.fkd, o.fvd⟩

/-- Two clones of a page, each in a block, with their rows. -/
structure Two2 (W : World) (B b1 b2 : Nat) (p : Pg) (k1 v1 d1 k2 v2 d2 : Value) : Prop where
  x1 : PBox W b1 p k1 v1 d1
  x2 : PBox W b2 p k2 v2 d2
  o1 : PgO W B p k1 v1 d1
  o2 : PgO W B p k2 v2 d2
  hb1 : B ≤ b1
  hb2 : B ≤ b2
  ne : b1 ≠ b2
  off1 : ∀ g, k1.ownBlock = some g ∨ v1.ownBlock = some g ∨ d1.ownBlock = some g → g ≠ b1 ∧ g ≠ b2
  off2 : ∀ g, k2.ownBlock = some g ∨ v2.ownBlock = some g ∨ d2.ownBlock = some g → g ≠ b1 ∧ g ≠ b2
theorem two_of {W : World} {B b1 b2 l1 h1 l2 h2 : Nat} {p : Pg} {k1 v1 d1 k2 v2 d2 : Value} (o1 : PgO W B p k1 v1 d1) (o2 : PgO W B p k2 v2 d2) (i1 : InP l1 h1 k1 v1 d1) (i2 : InP l2 h2 k2 v2 d2)
    (z1 : Blk W b1 zeroC 25) (z2 : Blk W b2 zeroC 25) (hb1 : B ≤ b1) (hb2 : B ≤ b2) (ne : b1 ≠ b2) (c11 : b1 < l1 ∨ h1 ≤ b1) (c12 : b1 < l2 ∨ h2 ≤ b1) (c21 : b2 < l1 ∨ h1 ≤ b2) (c22 : b2 < l2 ∨ h2 ≤ b2) :
    Two2 (put8 (put8 W b1 (.int .i64 p.kind) k1 v1 d1 (.int .i64 p.root) (.int .i64 p.next) (.int .i64 p.size) (.int .i64 p.idle)) b2 (.int .i64 p.kind) k2 v2 d2 (.int .i64 p.root) (.int .i64 p.next) (.int .i64 p.size) (.int .i64 p.idle)) B b1 b2 p k1 v1 d1 k2 v2 d2 := by
  have hk : ∀ g, g ≠ b1 → g ≠ b2 → (put8 (put8 W b1 (.int .i64 p.kind) k1 v1 d1 (.int .i64 p.root) (.int .i64 p.next) (.int .i64 p.size) (.int .i64 p.idle)) b2 (.int .i64 p.kind) k2 v2 d2 (.int .i64 p.root) (.int .i64 p.next) (.int .i64 p.size) (.int .i64 p.idle)).heap[g]? = W.heap[g]? := fun g n1 n2 => by
    rw [put8_other _ _ _ _ _ _ _ _ _ _ _ n2, put8_other _ _ _ _ _ _ _ _ _ _ _ n1]
  refine ⟨Blk.of (blk_set8 _ _ _ _ _ _ _ _ z1) (put8_other _ _ _ _ _ _ _ _ _ _ _ ne), blk_set8 _ _ _ _ _ _ _ _ (Blk.of z2 (put8_other _ _ _ _ _ _ _ _ _ _ _ (Ne.symm ne))), o1.keep i1 fun g a b => hk g (by omega) (by omega), o2.keep i2 fun g a b => hk g (by omega) (by omega), hb1, hb2, ne, fun g e => ?_, fun g e => ?_⟩
  · rcases e with e | e | e
    · have := i1.k g e; omega
    · have := i1.v g e; omega
    · have := i1.d g e; omega
  · rcases e with e | e | e
    · have := i2.k g e; omega
    · have := i2.v g e; omega
    · have := i2.d g e; omega
theorem put8_chg {S : Nat → Prop} {a w : World} (h : Chg S a w) {b : Nat} (hb : b < a.heap.size → S b) (u0 u1 u2 u3 u4 u5 u6 u7 : Value) : Chg S a (put8 w b u0 u1 u2 u3 u4 u5 u6 u7) :=
  (((((((h.setCell ⟨b, 0, none⟩ hb _).setCell ⟨b, 1, none⟩ hb _).setCell ⟨b, 2, none⟩ hb _).setCell ⟨b, 3, none⟩ hb _).setCell ⟨b, 4, none⟩ hb _).setCell ⟨b, 5, none⟩ hb _).setCell ⟨b, 6, none⟩ hb _).setCell ⟨b, 7, none⟩ hb _
theorem pgc_one (p : Pg) (ka kn kc va vn vc da dn dc) : (pgc p (.slice ka kn kc) (.slice va vn vc) (.slice da dn dc)).all (·.oneCell') = true := by simp [pgc, Value.oneCell']

/-- Where a split stands: what its two blocks don't touch. -/
structure SpF (w W : World) (B b1 b2 : Nat) (p : Pg) (kv vv dv K1 V1 D1 K2 V2 D2 : Value) : Prop where
  o1 : PgO W B p K1 V1 D1
  o2 : PgO W B p K2 V2 D2
  ne : b1 ≠ b2
  off1 : ∀ g, K1.ownBlock = some g ∨ V1.ownBlock = some g ∨ D1.ownBlock = some g → g ≠ b1 ∧ g ≠ b2
  off2 : ∀ g, K2.ownBlock = some g ∨ V2.ownBlock = some g ∨ D2.ownBlock = some g → g ≠ b1 ∧ g ≠ b2
  r0 : PBox W w.heap.size p kv vv dv
  r1 : Blk W (w.heap.size + 1) zeroC 25
  r2 : Blk W (w.heap.size + 1 + 1) zeroC 25
  hA : w.heap.size + 1 + 1 < B
  hb1 : B ≤ b1
  hb2 : B ≤ b2
  bel : Below w.heap.size w W
theorem SpF.set {w W : World} {B b1 b2 : Nat} {p : Pg} {kv vv dv K1 V1 D1 K2 V2 D2 : Value} (h : SpF w W B b1 b2 p kv vv dv K1 V1 D1 K2 V2 D2) (b f : Nat) (u : Value) (hb : b = b1 ∨ b = b2) : SpF w (W.setCell ⟨b, f, none⟩ u) B b1 b2 p kv vv dv K1 V1 D1 K2 V2 D2 := by
  have h1 := h.hA
  have h2 := h.hb1
  have h3 := h.hb2
  have hwb : w.heap.size ≤ b := by rcases hb with rfl | rfl <;> omega
  have hk : ∀ g, g ≠ b1 → g ≠ b2 → (W.setCell ⟨b, f, none⟩ u).heap[g]? = W.heap[g]? := fun g a c => Below.heap_setCell _ _ _ _ (by rcases hb with rfl | rfl <;> assumption)
  exact ⟨⟨h.o1.keys.kept fun g e => hk g (h.off1 g (.inl e)).1 (h.off1 g (.inl e)).2, h.o1.vals.kept fun g e => hk g (h.off1 g (.inr (.inl e))).1 (h.off1 g (.inr (.inl e))).2, h.o1.kids.kept fun g e => hk g (h.off1 g (.inr (.inr e))).1 (h.off1 g (.inr (.inr e))).2, h.o1.fkv, h.o1.fkd, h.o1.fvd⟩,
    ⟨h.o2.keys.kept fun g e => hk g (h.off2 g (.inl e)).1 (h.off2 g (.inl e)).2, h.o2.vals.kept fun g e => hk g (h.off2 g (.inr (.inl e))).1 (h.off2 g (.inr (.inl e))).2, h.o2.kids.kept fun g e => hk g (h.off2 g (.inr (.inr e))).1 (h.off2 g (.inr (.inr e))).2, h.o2.fkv, h.o2.fkd, h.o2.fvd⟩,
    h.ne, h.off1, h.off2, Blk.of h.r0 (hk _ (by omega) (by omega)), Blk.of h.r1 (hk _ (by omega) (by omega)), Blk.of h.r2 (hk _ (by omega) (by omega)), h.hA, h.hb1, h.hb2, h.bel.setCell hwb _⟩
theorem SpF.drew {w W : World} {B b1 b2 : Nat} {p : Pg} {kv vv dv K1 V1 D1 K2 V2 D2 : Value} (h : SpF w W B b1 b2 p kv vv dv K1 V1 D1 K2 V2 D2) : SpF w W.drew B b1 b2 p kv vv dv K1 V1 D1 K2 V2 D2 := ⟨⟨h.o1.keys, h.o1.vals, h.o1.kids, h.o1.fkv, h.o1.fkd, h.o1.fvd⟩, ⟨h.o2.keys, h.o2.vals, h.o2.kids, h.o2.fkv, h.o2.fkd, h.o2.fvd⟩, h.ne, h.off1, h.off2, h.r0, h.r1, h.r2, h.hA, h.hb1, h.hb2, h.bel.drew⟩

/-- Rows that lie in blocks from B on. -/
def NewV (B : Nat) (v : Value) : Prop := ∀ a n c, v = .slice (some a) n c → B ≤ a.block
structure NewP (B : Nat) (kv vv dv : Value) : Prop where
  k : NewV B kv
  v : NewV B vv
  d : NewV B dv
theorem addr_block (a : Addr) (i : Nat) : (a.add i).block = a.block := by unfold Addr.add; split <;> rfl
theorem OwnV.new {W : World} {B B' : Nat} {T : TypeId} {v : Value} {us : List Value} (h : OwnV W B T v us) (hB : B' ≤ B) : NewV B' v := fun a n c e => by
  subst e
  exact Nat.le_trans hB (h.blk a.block rfl).1
theorem NewV.take {B n k c : Nat} {a : Option Addr} (h : NewV B (.slice a n c)) : NewV B (.slice a k c) := fun x m d e => by
  cases e
  exact h x n _ rfl
theorem NewV.drop {B n c m d k : Nat} {a : Addr} (h : NewV B (.slice (some a) n c)) : NewV B (.slice (some (a.add k)) m d) := fun x m' d' e => by
  cases e
  rw [addr_block]
  exact h a n c rfl
theorem NewV.mono {B B' : Nat} {v : Value} (h : NewV B v) (hB : B' ≤ B) : NewV B' v := fun a n c e => Nat.le_trans hB (h a n c e)
theorem NewP.mono {B B' : Nat} {kv vv dv : Value} (h : NewP B kv vv dv) (hB : B' ≤ B) : NewP B' kv vv dv := ⟨h.k.mono hB, h.v.mono hB, h.d.mono hB⟩
theorem Rd.kept {W W' : World} {B : Nat} {v : Value} {us : List Value} (h : Rd W v us) (hn : NewV B v) (hk : ∀ g, B ≤ g → g < W.heap.size → W'.heap[g]? = W.heap[g]?) : Rd W' v us := by
  obtain ⟨ao, c, rfl, h1, h2, h3, h4⟩ := h
  refine ⟨ao, c, rfl, h1, h2, h3, fun ad had j u hu => ?_⟩
  subst had
  have hc := h4 ad rfl j u hu
  rw [World.cell?_of_block (hk _ (by rw [addr_block]; exact hn ad _ _ rfl) (cell_lt hc))]
  exact hc
theorem PgAt.kept {W W' : World} {B : Nat} {p : Pg} {kv vv dv : Value} (h : PgAt W p kv vv dv) (hn : NewP B kv vv dv) (hk : ∀ g, B ≤ g → g < W.heap.size → W'.heap[g]? = W.heap[g]?) : PgAt W' p kv vv dv := ⟨h.keys.kept hn.k hk, h.vals.kept hn.v hk, h.kids.kept hn.d hk⟩
theorem PgO.newP {W : World} {B : Nat} {p : Pg} {kv vv dv : Value} (h : PgO W B p kv vv dv) : NewP B kv vv dv := ⟨h.keys.new (Nat.le_refl _), h.vals.new (Nat.le_refl _), h.kids.new (Nat.le_refl _)⟩

/-- What a split hands back: two pages, in rows of its own, and the key between. -/
def SplitPost (pa pb : Pg) (ks : List ByteArray) (i : Nat) (w : World) (e : Ending) (w' : World) : Prop :=
  ∃ k1 v1 d1 s k2 v2 d2, e = .returned (.tuple #[pgv pa k1 v1 d1, .string s, pgv pb k2 v2 d2]) ∧ ks[i]? = some s ∧ PgAt w' pa k1 v1 d1 ∧ PgAt w' pb k2 v2 d2 ∧ NewP w.heap.size k1 v1 d1 ∧ NewP w.heap.size k2 v2 d2 ∧ Below w.heap.size w w'
/-- The two pages of a leaf, of an inner page. -/
def leafA (p : Pg) : Pg := { p with keys := p.keys.take (p.keys.length / 2), vals := p.vals.take (p.keys.length / 2) }
def leafB (p : Pg) : Pg := { p with keys := p.keys.drop (p.keys.length / 2), vals := p.vals.drop (p.keys.length / 2) }
def innA (p : Pg) : Pg := { p with keys := p.keys.take (p.kids.length / 2 - 1), kids := p.kids.take (p.kids.length / 2) }
def innB (p : Pg) : Pg := { p with keys := p.keys.drop (p.kids.length / 2), kids := p.kids.drop (p.kids.length / 2) }
end Go.Proofs.Ytmjekecalghhdaa

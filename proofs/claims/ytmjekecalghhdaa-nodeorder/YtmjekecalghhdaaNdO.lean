/- Leaves in blocks of their own, whose texts lie elsewhere. Own lemmas, no statement. -/
import Derived.Test.YtmjekecalghhdaaNd11
import Derived.Test.YtmjekecalghhdaaLast
import Derived.Test.YtmjekecalghhdaaOps
set_option linter.unusedSimpArgs false
set_option linter.unusedVariables false
namespace Go.Proofs.Ytmjekecalghhdaa
open Go.ChangeShapes Go.WideShapes Go.ChangeAt Go.RowKit

section
variable {w w' W W' : World} {b b' : Nat} {p q : Pg} {ks ks' : List ByteArray}
/-- A text's cell lies in no page's block. -/
theorem str_apart {ka kn kc va vn vc da dn dc} (h : PBox W b q (.slice ka kn kc) (.slice va vn vc) (.slice da dn dc)) {a : Addr} {s : ByteArray} (hc : W.cell? a = some (.string s)) : a.block ≠ b := fun e => by
  subst e
  unfold PBox Blk at h
  unfold World.cell? at hc
  rw [h] at hc
  simp only at hc
  split at hc
  · cases hc
  · unfold pgc at hc
    match h8 : a.off with
    | 0 => rw [h8] at hc; simp at hc
    | 1 => rw [h8] at hc; simp at hc
    | 2 => rw [h8] at hc; simp at hc
    | 3 => rw [h8] at hc; simp at hc
    | 4 => rw [h8] at hc; simp at hc
    | 5 => rw [h8] at hc; simp at hc
    | 6 => rw [h8] at hc; simp at hc
    | 7 => rw [h8] at hc; simp at hc
    | n + 8 => rw [h8] at hc; simp at hc
theorem Rd.apart {ka kn kc va vn vc da dn dc} {v : Value} {ss : List ByteArray} (h : Rd W v (sv ss)) (hb : PBox W b q (.slice ka kn kc) (.slice va vn vc) (.slice da dn dc)) (hk : ∀ g, g ≠ b → W'.heap[g]? = W.heap[g]?) : Rd W' v (sv ss) := by
  obtain ⟨ao, c, rfl, h1, h2, h3, h4⟩ := h
  refine ⟨ao, c, rfl, h1, h2, h3, fun ad had j u hu => ?_⟩
  have hc := h4 ad had j u hu
  obtain ⟨s, _, rfl⟩ := List.mem_map.1 (List.mem_of_getElem? hu)
  have hne := str_apart hb hc
  rw [World.cell?_of_block (hk _ hne)]
  exact hc
/-- A leaf in block b. -/
def LeafIn (W : World) (b : Nat) (ks : List ByteArray) : Prop := ∃ ka kn kc va vn vc da dn dc, PBox W b (leafM ks) (.slice ka kn kc) (.slice va vn vc) (.slice da dn dc) ∧ PgAt W (leafM ks) (.slice ka kn kc) (.slice va vn vc) (.slice da dn dc)
theorem LeafIn.below (h : LeafIn W b ks) (hb : Below W.heap.size W W') : LeafIn W' b ks := by
  obtain ⟨ka, kn, kc, va, vn, vc, da, dn, dc, h1, h2⟩ := h
  exact ⟨ka, kn, kc, va, vn, vc, da, dn, dc, h1.below hb, h2.below hb⟩
theorem kids_apart {v : Value} (h : Rd W v (iv (leafM ks).kids)) : Rd W' v (iv (leafM ks).kids) := by
  obtain ⟨ao, c, rfl, h1, h2, h3, h4⟩ := h
  exact ⟨ao, c, rfl, h1, h2, h3, fun ad had j u hu => by simp [leafM, iv] at hu⟩
theorem LeafIn.apart (h : LeafIn W b ks) (h' : LeafIn W b' ks') (hne : b ≠ b') (hk : ∀ g, g ≠ b' → W'.heap[g]? = W.heap[g]?) : LeafIn W' b ks := by
  obtain ⟨ka, kn, kc, va, vn, vc, da, dn, dc, h1, h2⟩ := h
  obtain ⟨_, _, _, _, _, _, _, _, _, g1, g2⟩ := h'
  exact ⟨ka, kn, kc, va, vn, vc, da, dn, dc, Blk.of h1 (hk b hne), h2.keys.apart g1 hk, h2.vals.apart g1 hk, kids_apart h2.kids⟩
theorem LeafIn.rd {v : Value} {ss : List ByteArray} (h : Rd W v (sv ss)) (h' : LeafIn W b' ks') (hk : ∀ g, g ≠ b' → W'.heap[g]? = W.heap[g]?) : Rd W' v (sv ss) := by
  obtain ⟨_, _, _, _, _, _, _, _, _, g1, g2⟩ := h'
  exact h.apart g1 hk
def put8L (W : World) (b : Nat) (p : Pg) (kv vv dv : Value) : World := put8 W b (.int .i64 p.kind) kv vv dv (.int .i64 p.root) (.int .i64 p.next) (.int .i64 p.size) (.int .i64 p.idle)
theorem LeafIn.lay (h : LeafIn W b ks) {ka kn kc va vn vc da dn dc} (hp : PgAt W (leafM ks') (.slice ka kn kc) (.slice va vn vc) (.slice da dn dc)) : LeafIn (put8L W b (leafM ks') (.slice ka kn kc) (.slice va vn vc) (.slice da dn dc)) b ks' := by
  obtain ⟨_, _, _, _, _, _, _, _, _, g1, g2⟩ := h
  have hk := fun g hg => put8_other W b (.int .i64 (leafM ks').kind) (.slice ka kn kc) (.slice va vn vc) (.slice da dn dc) (.int .i64 (leafM ks').root) (.int .i64 (leafM ks').next) (.int .i64 (leafM ks').size) (.int .i64 (leafM ks').idle) g hg
  exact ⟨ka, kn, kc, va, vn, vc, da, dn, dc, blk_set8 _ _ _ _ _ _ _ _ g1, hp.keys.apart g1 hk, hp.vals.apart g1 hk, kids_apart hp.kids⟩
end

/-- What NodeOrder keeps: two leaves in blocks, and the keys that came in. -/
structure NO (w W : World) (a b : Nat) (v : Value) (l ka kb : List ByteArray) : Prop where
  A : LeafIn W a ka
  B : LeafIn W b kb
  R : Rd W v (sv l)
  Y : Below w.heap.size w W
  ha : w.heap.size ≤ a
  hb : w.heap.size ≤ b
  ne : a ≠ b
section
variable {w W W' : World} {a b : Nat} {v : Value} {l ka kb ks : List ByteArray}
theorem NO.below (h : NO w W a b v l ka kb) (x : Below W.heap.size W W') : NO w W' a b v l ka kb := ⟨h.A.below x, h.B.below x, h.R.below x, ext_trans h.Y x, h.ha, h.hb, h.ne⟩
theorem NO.drew (h : NO w W a b v l ka kb) : NO w W.drew a b v l ka kb := h.below (Below.drew (Below.refl _ _))
theorem NO.layA (h : NO w W a b v l ka kb) {k1 kn kc va vn vc da dn dc} (hp : PgAt W (leafM ks) (.slice k1 kn kc) (.slice va vn vc) (.slice da dn dc)) : NO w (put8L W a (leafM ks) (.slice k1 kn kc) (.slice va vn vc) (.slice da dn dc)) a b v l ks kb :=
  have hk := fun g hg => put8_other W a (.int .i64 (leafM ks).kind) (.slice k1 kn kc) (.slice va vn vc) (.slice da dn dc) (.int .i64 (leafM ks).root) (.int .i64 (leafM ks).next) (.int .i64 (leafM ks).size) (.int .i64 (leafM ks).idle) g hg
  ⟨h.A.lay hp, h.B.apart h.A (Ne.symm h.ne) hk, LeafIn.rd h.R h.A hk, put8_below h.Y h.ha _ _ _ _ _ _ _ _, h.ha, h.hb, h.ne⟩
theorem NO.layB (h : NO w W a b v l ka kb) {k1 kn kc va vn vc da dn dc} (hp : PgAt W (leafM ks) (.slice k1 kn kc) (.slice va vn vc) (.slice da dn dc)) : NO w (put8L W b (leafM ks) (.slice k1 kn kc) (.slice va vn vc) (.slice da dn dc)) a b v l ka ks :=
  have hk := fun g hg => put8_other W b (.int .i64 (leafM ks).kind) (.slice k1 kn kc) (.slice va vn vc) (.slice da dn dc) (.int .i64 (leafM ks).root) (.int .i64 (leafM ks).next) (.int .i64 (leafM ks).size) (.int .i64 (leafM ks).idle) g hg
  ⟨h.A.apart h.B h.ne hk, h.B.lay hp, LeafIn.rd h.R h.B hk, put8_below h.Y h.hb _ _ _ _ _ _ _ _, h.ha, h.hb, h.ne⟩
end

/-- Put and Drop of such leaves. -/
theorem putL_any (ks : List ByteArray) (k : ByteArray) (kv vv dv : Value) (W : World) (hp : PgAt W (leafM ks) kv vv dv) (hr : RisB ks) (hl : ks.length ≤ 1000) :
    Calls Try.prog 28 #[pgv (leafM ks) kv vv dv, .string k, .string (vk k)] W fun e w' => ∃ ka kn kc va vn vc da dn dc, e = .returned (pgv (leafM (insB k ks)) (.slice ka kn kc) (.slice va vn vc) (.slice da dn dc)) ∧ PgAt w' (leafM (insB k ks)) (.slice ka kn kc) (.slice va vn vc) (.slice da dn dc) ∧ Below W.heap.size W w' :=
  (nput_any (leafM ks) k (vk k) kv vv dv W hp (leafP_M ks) hr ⟨hl, by simp [leafM]; exact hl, by simp [leafM]⟩).mono fun e w' he => by
    obtain ⟨k3, v3, d3, h1, h2, h3⟩ := he
    rw [put_leafM] at h1 h2
    obtain ⟨kn, ka, kc, e1⟩ := h2.keys.any
    obtain ⟨vn, va, vc, e2⟩ := h2.vals.any
    obtain ⟨dn, da, dc, e3⟩ := h2.kids.any
    subst e1 e2 e3
    exact ⟨_, _, _, _, _, _, _, _, _, h1, h2, h3⟩
theorem dropL_any (ks : List ByteArray) (k : ByteArray) (kv vv dv : Value) (W : World) (hp : PgAt W (leafM ks) kv vv dv) (hr : RisB ks) (hl : ks.length ≤ 1000) :
    Calls Try.prog 29 #[pgv (leafM ks) kv vv dv, .string k] W fun e w' => ∃ ka kn kc va vn vc da dn dc, e = .returned (pgv (leafM (delB k ks)) (.slice ka kn kc) (.slice va vn vc) (.slice da dn dc)) ∧ PgAt w' (leafM (delB k ks)) (.slice ka kn kc) (.slice va vn vc) (.slice da dn dc) ∧ Below W.heap.size W w' :=
  (ndrop_any (leafM ks) k kv vv dv W hp (leafP_M ks) hr ⟨hl, by simp [leafM]; exact hl, by simp [leafM]⟩).mono fun e w' he => by
    obtain ⟨k3, v3, d3, h1, h2, h3⟩ := he
    rw [drop_leafM] at h1 h2
    obtain ⟨kn, ka, kc, e1⟩ := h2.keys.any
    obtain ⟨vn, va, vc, e2⟩ := h2.vals.any
    obtain ⟨dn, da, dc, e3⟩ := h2.kids.any
    subst e1 e2 e3
    exact ⟨_, _, _, _, _, _, _, _, _, h1, h2, h3⟩
end Go.Proofs.Ytmjekecalghhdaa

import Derived.Test.YtbgofajldkblmaaGreatRec2
import Derived.Test.YtbgofajldkblmaaGreatBox
import Derived.Maps.AppendAt
import Derived.Test.YtbgofajldkblmaaGreatRecQ
import Derived.Test.YtbgofajldkblmaaGreatDec5
import Derived.Lib.ConvBytes
/- Rows of structs that a call makes: they grow by append, and what their elements lead to lies apart. Own lemmas, no statement. -/
set_option linter.unusedSimpArgs false
set_option linter.unusedVariables false
namespace Go.Proofs.YtbgofajldkblmaaGreat
open Go.ChangeShapes Go.WideShapes Go.ChangeAt Go.RowKit

/-- What holds in a world, and in each that has the same blocks from lo on up to hi. -/
def StaI (lo hi : Nat) (W : World) (Q : World → Prop) : Prop := ∀ W2 : World, (∀ i, lo ≤ i → i < hi → W2.heap[i]? = W.heap[i]?) → Q W2
section
variable {W W' : World} {lo hi lo' hi' B : Nat} {Q Q' : World → Prop}
theorem StaI.here (h : StaI lo hi W Q) : Q W := h W fun _ _ _ => rfl
theorem StaI.move (h : StaI lo hi W Q) (hk : ∀ i, lo ≤ i → i < hi → W'.heap[i]? = W.heap[i]?) : StaI lo hi W' Q := fun W3 h3 => h W3 fun i a b => (h3 i a b).trans (hk i a b)
theorem StaI.wide (h : StaI lo hi W Q) (h1 : lo' ≤ lo) (h2 : hi ≤ hi') : StaI lo' hi' W Q := fun W3 h3 => h W3 fun i a b => h3 i (by omega) (by omega)
theorem StaI.mono (h : StaI lo hi W Q) (hq : ∀ W, Q W → Q' W) : StaI lo hi W Q' := fun W3 h3 => hq W3 (h W3 h3)
theorem StaI.and (h : StaI lo hi W Q) (h' : StaI lo hi W Q') : StaI lo hi W fun W => Q W ∧ Q' W := fun W3 h3 => ⟨h W3 h3, h' W3 h3⟩
theorem StaI.all {p : Prop} (h : p) : StaI lo hi W fun _ => p := fun _ _ => h
theorem StaI.grown {g : Nat} (h : StaI lo hi W Q) (hhi : hi ≤ W.heap.size) (hg : W.grownBy W' (some g)) (hn : g < lo) : StaI lo hi W' Q :=
  h.move fun i a b => hg.block i (by omega) (fun e => by cases e; omega)
theorem StaI.below (h : StaI lo hi W Q) (hhi : hi ≤ W.heap.size) (hb : Below W.heap.size W W') : StaI lo hi W' Q :=
  h.move fun i a b => hb.block i (by omega)
theorem StaI.setCell (h : StaI lo hi W Q) {b i : Nat} (hn : b < lo) (u : Value) : StaI lo hi (W.setCell ⟨b, i, none⟩ u) Q :=
  h.move fun j a _ => Below.heap_setCell _ _ _ _ (by show j ≠ b; omega)
theorem owns_kept {T : TypeId} {k n : Nat} {v : Value} {us : List Value} (h : W.ownsRow B T k v n us) (hb : ∀ g, v.ownBlock = some g → W'.heap[g]? = W.heap[g]?) : W'.ownsRow B T k v n us := by
  refine ⟨h.1, ?_⟩
  rcases h.2 with hn | ⟨g, cap, cur, rfl, hbg, hgg, rest⟩
  · exact .inl hn
  · exact .inr ⟨g, cap, cur, rfl, hbg, by rw [hb g rfl]; exact hgg, rest⟩
theorem ownV_sta {T : TypeId} {v : Value} {us : List Value} (h : OwnV W B T v us) : StaI B W.heap.size W fun W => Rd W v us := fun W2 h2 => (OwnV.kept h fun g hg => h2 g (h.blk g hg).1 (h.blk g hg).2).rd
end
theorem flat_get {α : Type} {cs : α → List Value} {k : Nat} (hk : ∀ x, (cs x).length = k) : ∀ {l : List α} {i : Nat} {x : α} {j : Nat} {u : Value}, l[i]? = some x → (cs x)[j]? = some u → (l.map cs).flatten[i * k + j]? = some u
  | [], i, x, j, u, h, _ => by simp at h
  | y :: t, 0, x, j, u, h, hu => by
    simp at h
    subst h
    have hj := (List.getElem?_eq_some_iff.1 hu).1
    simp only [List.map_cons, List.flatten_cons, Nat.zero_mul, Nat.zero_add]
    rw [List.getElem?_append_left hj]
    exact hu
  | y :: t, i + 1, x, j, u, h, hu => by
    have h' : t[i]? = some x := by simpa using h
    have := flat_get hk (l := t) h' hu
    simp only [List.map_cons, List.flatten_cons]
    rw [List.getElem?_append_right (by rw [hk, Nat.add_mul]; omega), hk, show (i + 1) * k + j - k = i * k + j by rw [Nat.add_mul]; omega]
    exact this
theorem rows_of_own {α : Type} {W : World} {B k : Nat} {T : TypeId} {cs : α → List Value} {v : Value} {xs : List α} (hk : ∀ x, (cs x).length = k) (h : W.ownsRow B T k v xs.length (xs.map cs).flatten) : RowsN W k cs v xs := by
  rcases h.2 with ⟨rfl, h0⟩ | ⟨g, cap, cur, rfl, _, _, h1, h2, _, _⟩
  · have := List.eq_nil_of_length_eq_zero h0
    subst this
    exact RowsN.nil _ _ _
  · exact ⟨some ⟨g, 0, none⟩, cap, rfl, h1, h2, fun e => (by cases e), fun ad had i x hx j u hu => by
      cases had
      exact h.cells rfl _ _ (flat_get hk hx hu)⟩
structure RowI {α : Type} (W : World) (B : Nat) (T : TypeId) (k : Nat) (cs : α → List Value) (At : World → α → Prop) (v : Value) (xs : List α) : Prop where
  own : W.ownsRow B T k v xs.length (xs.map cs).flatten
  el : ∀ x ∈ xs, ∃ lo hi, B ≤ lo ∧ hi ≤ W.heap.size ∧ (∀ b, v.ownBlock = some b → b < lo ∨ hi ≤ b) ∧ StaI lo hi W (fun W => At W x)
section
variable {α : Type} {W W' : World} {B k : Nat} {T : TypeId} {cs : α → List Value} {At : World → α → Prop} {v v' : Value} {xs : List α}
theorem RowI.nil (W : World) (B : Nat) (T : TypeId) (k : Nat) (cs : α → List Value) (At : World → α → Prop) : RowI W B T k cs At (.slice none 0 0) [] := ⟨World.ownsRow_nil _ _ _ _, fun x hx => by cases hx⟩
theorem RowI.keep (h : RowI W B T k cs At v xs) (hs : W.heap.size ≤ W'.heap.size) (hk : ∀ i, B ≤ i → i < W.heap.size → W'.heap[i]? = W.heap[i]?) : RowI W' B T k cs At v xs :=
  ⟨owns_kept h.own fun g hg => hk g (h.own.lt g hg).1 (h.own.lt g hg).2, fun x hx => by
    obtain ⟨lo, hi, h1, h2, h3, h4⟩ := h.el x hx
    exact ⟨lo, hi, h1, Nat.le_trans h2 hs, h3, h4.move fun i a b => hk i (by omega) (by omega)⟩⟩
theorem RowI.grown {g : Nat} (h : RowI W B T k cs At v xs) (hg : W.grownBy W' (some g)) (hn : g < B) : RowI W' B T k cs At v xs := h.keep hg.size fun i a b => hg.block i b (fun e => by cases e; omega)
theorem RowI.below (h : RowI W B T k cs At v xs) (hb : Below W.heap.size W W') : RowI W' B T k cs At v xs := h.keep hb.size fun i a b => hb.block i b
theorem RowI.drew (h : RowI W B T k cs At v xs) : RowI W.drew B T k cs At v xs := h.keep (Nat.le_refl _) fun _ _ _ => rfl
theorem RowI.sta (h : RowI W B T k cs At v xs) (hk : ∀ x, (cs x).length = k) : StaI B W.heap.size W (fun W => RowsN W k cs v xs ∧ ∀ x ∈ xs, At W x) := fun W2 h2 =>
  ⟨rows_of_own hk (owns_kept h.own fun g hg => h2 g (h.own.lt g hg).1 (h.own.lt g hg).2), fun x hx => by
    obtain ⟨lo, hi, h1, h2', h3, h4⟩ := h.el x hx
    exact h4 W2 fun i a b => h2 i (by omega) (by omega)⟩
theorem RowI.push (h : RowI W B T k cs At v xs) {x : α} {lo hi : Nat} {o : Obj} (hx : StaI lo hi W (fun W => At W x)) (hlo : B ≤ lo) (hhi : hi ≤ W.heap.size) (hap : ∀ b, v.ownBlock = some b → b < lo ∨ hi ≤ b)
    (ho : W'.ownsRow B T k v' (xs.length + 1) ((xs.map cs).flatten ++ cs x)) (hg : (W.alloc o).grownBy W' v.ownBlock) (hat : v'.ownBlock = v.ownBlock ∨ v'.ownBlock = some (W.heap.size + 1)) : RowI W' B T k cs At v' (xs ++ [x]) := by
  have hsz := hg.size
  simp at hsz
  refine ⟨by rw [List.length_append, List.length_singleton, List.map_append, List.flatten_append, List.map_singleton, List.flatten_singleton]; exact ho, fun y hy => ?_⟩
  have key : ∃ lo hi, B ≤ lo ∧ hi ≤ W.heap.size ∧ (∀ b, v.ownBlock = some b → b < lo ∨ hi ≤ b) ∧ StaI lo hi W (fun W => At W y) := by
    rcases List.mem_append.1 hy with h1 | h1
    · exact h.el y h1
    · simp at h1
      subst h1
      exact ⟨lo, hi, hlo, hhi, hap, hx⟩
  obtain ⟨l, u, h1, h2, h3, h4⟩ := key
  refine ⟨l, u, h1, by omega, fun b hb => ?_, h4.move fun i a b => ?_⟩
  · rcases hat with e | e
    · exact h3 b (by rw [← e]; exact hb)
    · rw [e] at hb; cases hb; omega
  · rw [hg.block i (by simp; omega) (fun e => by have := h3 i e.symm; omega), Below.heap_alloc _ _ _ (by omega)]
end
theorem cells_new (w : World) (l : List Value) (t : TypeId) : ∀ j u, l[j]? = some u → (w.alloc (.cells l.toArray t)).cell? ((⟨w.heap.size, 0, none⟩ : Addr).add j) = some u := by
  intro j u hj
  have := (Blk.new w l.toArray t).cell j
  rw [show (⟨w.heap.size, 0, none⟩ : Addr).add j = ⟨w.heap.size, j, none⟩ by by_cases h0 : j = 0 <;> simp [Addr.add, h0], this]
  simpa using hj
/-- 'append(l, x)' of one struct, l the call's own: x has just been laid in a block of its own. -/
theorem wpList_pushN {α : Type} {ops : Array Oper} {rest : List Oper} {o : Oper} {a : Act} {Q : Exit → Act → World → Prop} (W : World) (hgd : o.guard = none) (s y : Operand) (tS T : TypeId) (z : Value) (k bytes : Nat)
    (ht : Tryz.prog.underlying tS = some (.slice T)) (hinf : (Tryz.prog.info? T).map (fun i => (i.zero, i.size, i.bytes)) = some (some z, k, bytes)) (hzs : z.cells.size = k) (hk0 : 0 < k)
    (ho : o.op = .call { callee := .builtin .append, args := #[s, y], argTypes := #[tS, tS] })
    (B : Nat) (v : Value) (cs : α → List Value) (xs : List α) (x : α) (arr : Array Value) (harr : arr = (cs x).toArray) (hck : ∀ x, (cs x).length = k) (h1 : ∀ u ∈ cs x, u.oneCell' = true)
    (hown : W.ownsRow B T k v xs.length (xs.map cs).flatten) (hs : a.eval s = v) (hx : a.eval y = .slice (some ⟨W.heap.size, 0, none⟩) 1 1)
    (hl : xs.length ≤ 1000000) (hbb : bytes ≤ 10000) (hB : B ≤ W.heap.size)
    (hK : ∀ a' n' c' W', n' = xs.length + 1 → W'.ownsRow B T k (.slice a' n' c') (xs.length + 1) ((xs.map cs).flatten ++ cs x) → (W.alloc (.cells arr T)).grownBy W' v.ownBlock → ((Value.slice a' n' c').ownBlock = v.ownBlock ∨ (Value.slice a' n' c').ownBlock = some (W.heap.size + 1)) → wpList Tryz.prog ops Q rest (a.put o.dst (.slice a' n' c')) W') :
    wpList Tryz.prog ops Q (o :: rest) a (W.alloc (.cells arr T)) := by
  subst harr
  obtain ⟨i0, hi, hz0, hz1, hz2⟩ := info_parts hinf
  have hb : (xs.length + 1) * bytes ≤ 1000001 * 10000 := Nat.mul_le_mul (by omega) hbb
  refine wpList_append_own_at _ hgd s y tS ho B T i0 z k bytes ht hi hz0 hz1 hz2 hzs hk0 v xs.length _ hs (World.ownsRow.alloc hown _) ⟨W.heap.size, 0, none⟩ 1 1 (cs x) hx (by rw [hck]; omega) (cells_new _ _ _) h1 (by unfold maxLen; omega) (by omega) (by simp; omega) ?_
  intro v' w' h2 h3 _ h5
  have h4 : w'.ownsRow B T k v' (xs.length + 1) ((xs.map cs).flatten ++ cs x) := h2
  rcases h4.2 with ⟨_, h0⟩ | ⟨g, cap, cur, rfl, _⟩
  · cases h0
  · exact hK _ _ _ w' rfl h4 h3 (by simpa using h5)
end Go.Proofs.YtbgofajldkblmaaGreat
/- rec: how a Reader's calls are said; flags, texts, numbers. Own lemmas, no statement. -/
set_option linter.unusedSimpArgs false
set_option linter.unusedVariables false
namespace Go.Proofs.YtbgofajldkblmaaGreat
open Go.ChangeShapes Go.WideShapes Go.ChangeAt Go.RowKit

/-- A row of cells, stored from the i-th on. -/
def putL (w : World) (b : Nat) : Nat → List Value → World
  | _, [] => w
  | i, u :: t => putL (w.setCell ⟨b, i, none⟩ u) b (i + 1) t
theorem putL_other (b g : Nat) (hg : g ≠ b) : ∀ (us : List Value) (i : Nat) (w : World), (putL w b i us).heap[g]? = w.heap[g]?
  | [], _, _ => rfl
  | u :: t, i, w => by
    unfold putL
    rw [putL_other b g hg t (i + 1) _]
    exact Below.heap_setCell _ _ _ _ (by exact hg)
theorem putL_size (b : Nat) : ∀ (us : List Value) (i : Nat) (w : World), w.heap.size ≤ (putL w b i us).heap.size
  | [], _, _ => Nat.le_refl _
  | u :: t, i, w => by
    unfold putL
    exact Nat.le_trans (by simp) (putL_size b t (i + 1) _)
theorem putL_below {B b : Nat} (hb : B ≤ b) {a : World} : ∀ (us : List Value) (i : Nat) (w : World), Below B a w → Below B a (putL w b i us)
  | [], _, _, h => h
  | u :: t, i, w, h => by
    unfold putL
    exact putL_below hb t (i + 1) _ (h.setCell hb _)
theorem putL_blk {b : Nat} {T : TypeId} : ∀ (us : List Value) (pre rest : List Value) (w : World), Blk w b (pre ++ rest).toArray T → rest.length = us.length → Blk (putL w b pre.length us) b (pre ++ us).toArray T
  | [], pre, rest, w, h, hl => by
    have : rest = [] := List.eq_nil_of_length_eq_zero hl
    subst this
    exact h
  | u :: t, pre, rest, w, h, hl => by
    match rest, hl with
    | r :: rt, hl =>
      have h1 := h.set pre.length u
      have e : (pre ++ r :: rt).toArray.setIfInBounds pre.length u = ((pre ++ [u]) ++ rt).toArray := by simp
      rw [e] at h1
      have := putL_blk t (pre ++ [u]) rt _ h1 (by simpa using hl)
      unfold putL
      simpa using this
theorem putL_all {w : World} {b : Nat} {T : TypeId} {c : Array Value} (us : List Value) (h : Blk w b c T) (hl : c.size = us.length) : Blk (putL w b 0 us) b us.toArray T := by
  have := putL_blk us [] c.toList w (by simpa using h) (by simpa using hl)
  simpa using this
/-- What a Reader's call hands back, and leaves: only the Reader's own block has turned. -/
def ReadP {α : Type} (f : RF α) (g b : Nat) (l : List UInt8) (err : Nat) (val : Nat → World → Value → α → Prop) (w : World) (e : Ending) (w' : World) : Prop :=
  ∃ v, e = .returned v ∧ val w.heap.size w' v (f l err).1 ∧ Rdr w' g b (f l err).2.1 (f l err).2.2 ∧ w.grownBy w' (some g)
def vInt : Nat → World → Value → Int → Prop := fun _ _ v x => v = .int .i64 x
def vU64 : Nat → World → Value → Int → Prop := fun _ _ v x => v = .int .u64 x
def vBool : Nat → World → Value → Bool → Prop := fun _ _ v x => v = .bool x
def vStr : Nat → World → Value → ByteArray → Prop := fun _ _ v x => v = .string x
def vTid : Nat → World → Value → Int × Int → Prop := fun _ _ v x => v = .agg #[.int .u64 x.1, .int .i64 x.2]
def vStrs : Nat → World → Value → List ByteArray → Prop := fun B W v x => ∃ n a c, v = .slice a n c ∧ StaI B W.heap.size W fun W => Rd W v (sv x)
def vInts : Nat → World → Value → List Int → Prop := fun B W v x => ∃ n a c, v = .slice a n c ∧ StaI B W.heap.size W fun W => Rd W v (iv x)
def vOpen : Nat → World → Value → OpenQ → Prop := fun B W v x => ∃ y : OpenV, v = .agg y.c.toArray ∧ y.q = x ∧ StaI B W.heap.size W fun W => y.At W
def vDone : Nat → World → Value → DoneQ → Prop := fun B W v x => ∃ y : DoneV, v = .agg y.c.toArray ∧ y.q = x ∧ StaI B W.heap.size W fun W => y.At W
def vChg : Nat → World → Value → ChgQ → Prop := fun B W v x => ∃ y : ChgV, v = .agg y.c.toArray ∧ y.q = x ∧ StaI B W.heap.size W fun W => y.At W
def vRows {α β : Type} (k : Nat) (cs : α → List Value) (At : World → α → Prop) (q : α → β) : Nat → World → Value → List β → Prop :=
  fun B W v l => ∃ xs : List α, xs.map q = l ∧ (∃ n a c, v = .slice a n c) ∧ StaI B W.heap.size W fun W => RowsN W k cs v xs ∧ ∀ x ∈ xs, At W x
theorem grown_of_below {w w' : World} {r : Option Nat} (h : Below w.heap.size w w') : w.grownBy w' r := ⟨h.os, h.tape, h.output, h.size, fun i hi _ => h.block i hi⟩
theorem grown_push {w W W' : World} {g : Nat} {o : Obj} {r : Option Nat} (h : w.grownBy W (some g)) (hg : (W.alloc o).grownBy W' r) (hr : ∀ k, r = some k → w.heap.size ≤ k) : w.grownBy W' (some g) := by
  have hs := hg.size
  simp at hs
  refine ⟨hg.os.trans h.os, hg.tape.trans h.tape, hg.output.trans h.output, by have := h.size; omega, fun i hi hn => ?_⟩
  have h1 := h.size
  rw [hg.block i (by simp; omega) (fun e => by have := hr i e.symm; omega), Below.heap_alloc _ _ _ (by omega)]
  exact h.block i hi hn
theorem rdr_push {W W' : World} {g b : Nat} {l : List UInt8} {err : Nat} {o : Obj} {r : Option Nat} (h : Rdr W g b l err) (hg : (W.alloc o).grownBy W' r) (hr : ∀ k, r = some k → g ≠ k ∧ b ≠ k) : Rdr W' g b l err := by
  have hs := hg.size
  simp at hs
  have h1 := h.lt
  have h2 := h.2.1
  refine h.kept (by omega) ?_ ?_
  · rw [hg.block g (by simp; omega) (fun e => (hr g e.symm).1 rfl), Below.heap_alloc _ _ _ (by omega)]
  · rw [hg.block b (by simp; omega) (fun e => (hr b e.symm).2 rfl), Below.heap_alloc _ _ _ (by omega)]
theorem wf_i64_of {n : Int} (h0 : 0 ≤ n) (h1 : n ≤ 9223372036854775807) : (Lit.int .i64 n).wf = true := by
  simp [Lit.wf, IntKind.min, IntKind.max, IntKind.signed, IntKind.bits]
  omega
theorem rint_read (M : Nat) (g b : Nat) (l : List UInt8) (err : Nat) (w : World) (h : Rdr w g b l err) : Calls Tryz.prog 34 #[.pointer (some ⟨g, 0, none⟩), .int .u64 (M : Int)] w (ReadP (rint M) g b l err vU64 w) := by
  refine (num_any g b l err M w h).mono ?_
  rintro e w' ⟨rfl, h1, h2⟩
  exact ⟨_, rfl, rfl, h1, h2⟩
theorem rtid_read (g b : Nat) (l : List UInt8) (err : Nat) (w : World) (h : Rdr w g b l err) : Calls Tryz.prog 35 #[.pointer (some ⟨g, 0, none⟩)] w (ReadP rtidI g b l err vTid w) := by
  refine (tid_read g b l err w h).mono ?_
  rintro e w' ⟨rfl, h1, h2⟩
  exact ⟨_, rfl, rfl, h1, h2⟩
theorem rstr_read (M : Nat) (hM : M < 1000000) (g b : Nat) (l : List UInt8) (err : Nat) (w : World) (h : Rdr w g b l err) : Calls Tryz.prog 80 #[.pointer (some ⟨g, 0, none⟩), .int .i64 (M : Int)] w (ReadP (rstr M) g b l err vStr w) := by
  refine (text_read g b l err (M : Int) w h (wf_i64_of (by omega) (by omega))).mono ?_
  rintro e w' ⟨rfl, h1, h2⟩
  exact ⟨_, rfl, rfl, h1, h2⟩
set_option maxHeartbeats 1000000 in
theorem rflag_read (g b : Nat) (l : List UInt8) (err : Nat) (w : World) (h : Rdr w g b l err) : Calls Tryz.prog 81 #[.pointer (some ⟨g, 0, none⟩)] w (ReadP rflag g b l err vBool w) := by
  have HP : Hid (ReadP rflag g b l err vBool w = ReadP (fun _ _ => (((rnum l err 1).1 : Int) == 1, (rnum l err 1).2)) g b l err vBool w) := rfl
  rw [HP.out]
  have HC : Hid (Calls _ _ _ _ _) := num_any g b l err 1 w h
  clear h HP
  generalize rnum l err 1 = R at *
  obtain ⟨N, L2, E2⟩ := R
  go_enter Tryz.func81, Tryz.ntmps81
  go_wp2_with fail
  refine HC.out.mono ?_
  rintro e w' ⟨rfl, h1, h2⟩
  have H1 : Hid (Rdr w' g b L2 E2) := h1
  have H2 : Hid (w.grownBy w' (some g)) := h2
  clear h1 h2 HC
  obtain ⟨B, hB⟩ : ∃ B : Bool, ((N : Int) == 1) = B := ⟨_, rfl⟩
  have HB : Hid (((N : Int) == 1) = B) := hB
  go_wp2
  go_ret
  exact ⟨_, rfl, HB.out.symm ▸ rfl, H1.out, H2.out⟩
set_option maxHeartbeats 1000000 in
theorem rkey_read (g b : Nat) (l : List UInt8) (err : Nat) (w : World) (h : Rdr w g b l err) : Calls Tryz.prog 105 #[.pointer (some ⟨g, 0, none⟩)] w (ReadP (rstr 24) g b l err vStr w) := by
  have HC : Hid (Calls _ _ _ _ _) := rstr_read 24 (by omega) g b l err w h
  clear h
  go_enter Tryz.func105, Tryz.ntmps105
  go_wp2_with fail
  refine HC.out.mono ?_
  rintro e w' ⟨v, rfl, hv, h1, h2⟩
  have H : Hid (ReadP (rstr 24) g b l err vStr w (.returned v) w') := ⟨v, rfl, hv, h1, h2⟩
  have hv2 : v = .string (rstr 24 l err).1 := hv
  subst hv2
  clear hv h1 h2 HC
  generalize (rstr 24 l err).1 = S at *
  go_wp2
  go_ret
  exact H.out
set_option maxHeartbeats 1000000 in
theorem rnode_read (g b : Nat) (l : List UInt8) (err : Nat) (w : World) (h : Rdr w g b l err) : Calls Tryz.prog 107 #[.pointer (some ⟨g, 0, none⟩)] w (ReadP (rint 63) g b l err vInt w) := by
  have HC : Hid (Calls _ _ _ _ _) := num_any g b l err 63 w h
  have HP : Hid (ReadP (rint 63) g b l err vInt w = ReadP (fun _ _ => (((rnum l err 63).1 : Int), (rnum l err 63).2)) g b l err vInt w) := rfl
  rw [HP.out]
  have hle : (rnum l err 63).1 ≤ 63 := rnum_le _ _ _
  clear h HP
  generalize rnum l err 63 = R at *
  obtain ⟨N, L2, E2⟩ := R
  simp only at hle
  go_enter Tryz.func107, Tryz.ntmps107
  go_wp2_with fail
  refine HC.out.mono ?_
  rintro e w' ⟨rfl, h1, h2⟩
  have H1 : Hid (Rdr w' g b L2 E2) := h1
  have H2 : Hid (w.grownBy w' (some g)) := h2
  clear h1 h2 HC
  go_wp2
  go_ret
  exact ⟨_, rfl, rfl, H1.out, H2.out⟩
end Go.Proofs.YtbgofajldkblmaaGreat
/- rec: readAll of texts and of numbers. Own lemmas, no statement. -/
set_option linter.unusedSimpArgs false
set_option linter.unusedVariables false
namespace Go.Proofs.YtbgofajldkblmaaGreat
open Go.ChangeShapes Go.WideShapes Go.ChangeAt Go.RowKit

set_option maxRecDepth 100000 in
set_option maxHeartbeats 4000000 in
theorem readAllS (most : Nat) (hm : most ≤ 1000) (g b : Nat) (l : List UInt8) (err : Nat) (w : World) (h : Rdr w g b l err) :
    Calls Tryz.prog 104 #[.pointer (some ⟨g, 0, none⟩), .int .u64 (most : Int), .func (.func 105) #[] #[]] w (ReadP (rall (rstr 24) most) g b l err vStrs w) := by
  have HC : Hid (Calls _ _ _ _ _) := num_any g b l err most w h
  have hle : (rnum l err most).1 ≤ most := rnum_le _ _ _
  have HGB : Hid (g < w.heap.size ∧ b < w.heap.size) := ⟨h.lt, h.2.1⟩
  have HP : Hid (ReadP (rall (rstr 24) most) g b l err vStrs w = ReadP (fun _ _ => rtk (rstr 24) (rnum l err most).1 (rnum l err most).2.1 (rnum l err most).2.2) g b l err vStrs w) := rfl
  rw [HP.out]
  clear h HP
  generalize rnum l err most = R at *
  obtain ⟨N, L, E⟩ := R
  simp only at hle
  have hN : N ≤ 1000 := by omega
  clear hle hm
  go_enter Tryz.func104, Tryz.ntmps104
  go_wp2_with fail
  refine HC.out.mono ?_
  rintro e w1 ⟨rfl, h1, h2⟩
  have HR : Hid (Rdr w1 g b L E) := h1
  have HG : Hid (w.grownBy w1 (some g)) := h2
  clear h1 h2 HC
  go_wp2
  go_loopw [7, 11] (fun v i wr => ∃ k : Nat, i = .int .u64 (k : Int) ∧ k ≤ N ∧ OwnV wr w.heap.size 9 v (sv (rtk (rstr 24) k L E).1) ∧ (rtk (rstr 24) k L E).1.length = k ∧ Rdr wr g b (rtk (rstr 24) k L E).2.1 (rtk (rstr 24) k L E).2.2 ∧ w.grownBy wr (some g)) (fun _ i _ => N - (intOf i).toNat)
  case atStart => exact ⟨0, rfl, Nat.zero_le _, OwnV.nil _ _ _, rfl, HR.out, HG.out⟩
  case round =>
    obtain ⟨k, rfl, hk, ho, hkl, hr, hg⟩ := hrel
    clear HR HG
    have HO : Hid (OwnV wr w.heap.size 9 _ (sv (rtk (rstr 24) k L E).1)) := ho
    have HR : Hid (Rdr wr g b (rtk (rstr 24) k L E).2.1 (rtk (rstr 24) k L E).2.2) := hr
    have HG : Hid (w.grownBy wr (some g)) := hg
    have HL : Hid ((rtk (rstr 24) k L E).1.length = k) := hkl
    clear ho hr hg hkl
    by_cases hlt : k < N
    · have hi2 : (k : Int) < (N : Int) := by omega
      have HS : Hid (rtk (rstr 24) (k + 1) L E = ((rtk (rstr 24) k L E).1 ++ [((rstr 24) (rtk (rstr 24) k L E).2.1 (rtk (rstr 24) k L E).2.2).1], ((rstr 24) (rtk (rstr 24) k L E).2.1 (rtk (rstr 24) k L E).2.2).2.1, ((rstr 24) (rtk (rstr 24) k L E).2.1 (rtk (rstr 24) k L E).2.2).2.2)) := rtk_succ (rstr 24) k L E
      have HC : Hid (Calls _ _ _ _ _) := rkey_read g b _ _ wr HR.out
      generalize rtk (rstr 24) k L E = S at *
      obtain ⟨S1, S2, S3⟩ := S
      go_wp2_with fail
      refine HC.out.mono ?_
      rintro e w2 ⟨v2, rfl, hv, h1, h2⟩
      have HV : Hid (v2 = .string ((rstr 24) S2 S3).1) := hv
      have HR2 : Hid (Rdr w2 g b ((rstr 24) S2 S3).2.1 ((rstr 24) S2 S3).2.2) := h1
      have HO2 : Hid (OwnV w2 w.heap.size 9 _ (sv S1)) := OwnV.kept HO.out fun j hj => h2.block j (HO.out.blk j hj).2 (fun e => by cases e; have := (HO.out.blk _ hj).1; have := HGB.out.1; omega)
      have HG2 : Hid (w.grownBy w2 (some g)) := grownBy_trans HG.out h2
      clear hv h1 h2 HC HO HR HG
      have hv2 := HV.out
      generalize ((rstr 24) S2 S3).1 = X at *
      generalize ((rstr 24) S2 S3).2.1 = L2 at *
      generalize ((rstr 24) S2 S3).2.2 = E2 at *
      subst hv2
      have HSZ : Hid (w.heap.size ≤ w2.heap.size) := HG2.out.size
      go_wp2_with (at_builtin; refine wpList_pushS w2 rfl _ _ rfl w.heap.size _ S1 X HO2.out rfl rfl (by have := HL.out; omega) HSZ.out ?_)
      intro a3 n3 c3 w3 hn3 ho hg hat
      have HO3 : Hid (OwnV w3 w.heap.size 9 (.slice a3 n3 c3) (sv (S1 ++ [X]))) := ho
      have HR3 : Hid (Rdr w3 g b L2 E2) := rdr_push HR2.out hg (fun j hj => by have h1 := (HO2.out.blk j hj).1; have h2 := HGB.out; omega)
      have HG3 : Hid (w.grownBy w3 (some g)) := grown_push HG2.out hg (fun j hj => (HO2.out.blk j hj).1)
      clear hn3 ho hg hat HO2 HR2 HG2 HV
      go_wp2
      go_roundw
      case rel => exact ⟨k + 1, by go_num, by omega, by rw [HS.out]; exact HO3.out, by rw [HS.out]; have := HL.out; simp [this], by rw [HS.out]; exact HR3.out, HG3.out⟩
      case measure => simp [intOf]; omega
    · have hkn : k = N := by omega
      subst hkn
      clear hlt hk
      obtain ⟨a4, c4, hv4⟩ := HO.out.rd.form
      subst hv4
      go_wp2
      go_ret
      exact ⟨_, rfl, ⟨_, _, _, rfl, ownV_sta HO.out⟩, HR.out, HG.out⟩

set_option maxRecDepth 100000 in
set_option maxHeartbeats 4000000 in
theorem readAllI (most : Nat) (hm : most ≤ 1000) (g b : Nat) (l : List UInt8) (err : Nat) (w : World) (h : Rdr w g b l err) :
    Calls Tryz.prog 106 #[.pointer (some ⟨g, 0, none⟩), .int .u64 (most : Int), .func (.func 107) #[] #[]] w (ReadP (rall (rint 63) most) g b l err vInts w) := by
  have HC : Hid (Calls _ _ _ _ _) := num_any g b l err most w h
  have hle : (rnum l err most).1 ≤ most := rnum_le _ _ _
  have HGB : Hid (g < w.heap.size ∧ b < w.heap.size) := ⟨h.lt, h.2.1⟩
  have HP : Hid (ReadP (rall (rint 63) most) g b l err vInts w = ReadP (fun _ _ => rtk (rint 63) (rnum l err most).1 (rnum l err most).2.1 (rnum l err most).2.2) g b l err vInts w) := rfl
  rw [HP.out]
  clear h HP
  generalize rnum l err most = R at *
  obtain ⟨N, L, E⟩ := R
  simp only at hle
  have hN : N ≤ 1000 := by omega
  clear hle hm
  go_enter Tryz.func106, Tryz.ntmps106
  go_wp2_with fail
  refine HC.out.mono ?_
  rintro e w1 ⟨rfl, h1, h2⟩
  have HR : Hid (Rdr w1 g b L E) := h1
  have HG : Hid (w.grownBy w1 (some g)) := h2
  clear h1 h2 HC
  go_wp2
  go_loopw [7, 11] (fun v i wr => ∃ k : Nat, i = .int .u64 (k : Int) ∧ k ≤ N ∧ OwnV wr w.heap.size 3 v (iv (rtk (rint 63) k L E).1) ∧ (rtk (rint 63) k L E).1.length = k ∧ Rdr wr g b (rtk (rint 63) k L E).2.1 (rtk (rint 63) k L E).2.2 ∧ w.grownBy wr (some g)) (fun _ i _ => N - (intOf i).toNat)
  case atStart => exact ⟨0, rfl, Nat.zero_le _, OwnV.nil _ _ _, rfl, HR.out, HG.out⟩
  case round =>
    obtain ⟨k, rfl, hk, ho, hkl, hr, hg⟩ := hrel
    clear HR HG
    have HO : Hid (OwnV wr w.heap.size 3 _ (iv (rtk (rint 63) k L E).1)) := ho
    have HR : Hid (Rdr wr g b (rtk (rint 63) k L E).2.1 (rtk (rint 63) k L E).2.2) := hr
    have HG : Hid (w.grownBy wr (some g)) := hg
    have HL : Hid ((rtk (rint 63) k L E).1.length = k) := hkl
    clear ho hr hg hkl
    by_cases hlt : k < N
    · have hi2 : (k : Int) < (N : Int) := by omega
      have HS : Hid (rtk (rint 63) (k + 1) L E = ((rtk (rint 63) k L E).1 ++ [((rint 63) (rtk (rint 63) k L E).2.1 (rtk (rint 63) k L E).2.2).1], ((rint 63) (rtk (rint 63) k L E).2.1 (rtk (rint 63) k L E).2.2).2.1, ((rint 63) (rtk (rint 63) k L E).2.1 (rtk (rint 63) k L E).2.2).2.2)) := rtk_succ (rint 63) k L E
      have HC : Hid (Calls _ _ _ _ _) := rnode_read g b _ _ wr HR.out
      generalize rtk (rint 63) k L E = S at *
      obtain ⟨S1, S2, S3⟩ := S
      go_wp2_with fail
      refine HC.out.mono ?_
      rintro e w2 ⟨v2, rfl, hv, h1, h2⟩
      have HV : Hid (v2 = .int .i64 ((rint 63) S2 S3).1) := hv
      have HR2 : Hid (Rdr w2 g b ((rint 63) S2 S3).2.1 ((rint 63) S2 S3).2.2) := h1
      have HO2 : Hid (OwnV w2 w.heap.size 3 _ (iv S1)) := OwnV.kept HO.out fun j hj => h2.block j (HO.out.blk j hj).2 (fun e => by cases e; have := (HO.out.blk _ hj).1; have := HGB.out.1; omega)
      have HG2 : Hid (w.grownBy w2 (some g)) := grownBy_trans HG.out h2
      clear hv h1 h2 HC HO HR HG
      have hv2 := HV.out
      generalize ((rint 63) S2 S3).1 = X at *
      generalize ((rint 63) S2 S3).2.1 = L2 at *
      generalize ((rint 63) S2 S3).2.2 = E2 at *
      subst hv2
      have HSZ : Hid (w.heap.size ≤ w2.heap.size) := HG2.out.size
      go_wp2_with (at_builtin; refine wpList_pushI w2 rfl _ _ rfl w.heap.size _ S1 X HO2.out rfl rfl (by have := HL.out; omega) HSZ.out ?_)
      intro a3 n3 c3 w3 hn3 ho hg hat
      have HO3 : Hid (OwnV w3 w.heap.size 3 (.slice a3 n3 c3) (iv (S1 ++ [X]))) := ho
      have HR3 : Hid (Rdr w3 g b L2 E2) := rdr_push HR2.out hg (fun j hj => by have h1 := (HO2.out.blk j hj).1; have h2 := HGB.out; omega)
      have HG3 : Hid (w.grownBy w3 (some g)) := grown_push HG2.out hg (fun j hj => (HO2.out.blk j hj).1)
      clear hn3 ho hg hat HO2 HR2 HG2 HV
      go_wp2
      go_roundw
      case rel => exact ⟨k + 1, by go_num, by omega, by rw [HS.out]; exact HO3.out, by rw [HS.out]; have := HL.out; simp [this], by rw [HS.out]; exact HR3.out, HG3.out⟩
      case measure => simp [intOf]; omega
    · have hkn : k = N := by omega
      subst hkn
      clear hlt hk
      obtain ⟨a4, c4, hv4⟩ := HO.out.rd.form
      subst hv4
      go_wp2
      go_ret
      exact ⟨_, rfl, ⟨_, _, _, rfl, ownV_sta HO.out⟩, HR.out, HG.out⟩

set_option maxHeartbeats 1000000 in
theorem rreads_read (g b : Nat) (l : List UInt8) (err : Nat) (w : World) (h : Rdr w g b l err) : Calls Tryz.prog 83 #[.pointer (some ⟨g, 0, none⟩)] w (ReadP rreads g b l err vStrs w) := by
  have HC : Hid (Calls _ _ _ _ _) := readAllS 100 (by omega) g b l err w h
  clear h
  go_enter Tryz.func83, Tryz.ntmps83
  go_wp2_with fail
  refine HC.out.mono ?_
  rintro e w' ⟨v, rfl, hv, h1, h2⟩
  have H : Hid (ReadP rreads g b l err vStrs w (.returned v) w') := ⟨v, rfl, hv, h1, h2⟩
  obtain ⟨n, a, c, rfl, _⟩ := hv
  clear h1 h2 HC
  go_wp2
  go_ret
  exact H.out

set_option maxHeartbeats 1000000 in
theorem rnodes_read (g b : Nat) (l : List UInt8) (err : Nat) (w : World) (h : Rdr w g b l err) : Calls Tryz.prog 84 #[.pointer (some ⟨g, 0, none⟩)] w (ReadP rnodes g b l err vInts w) := by
  have HC : Hid (Calls _ _ _ _ _) := readAllI 64 (by omega) g b l err w h
  clear h
  go_enter Tryz.func84, Tryz.ntmps84
  go_wp2_with fail
  refine HC.out.mono ?_
  rintro e w' ⟨v, rfl, hv, h1, h2⟩
  have H : Hid (ReadP rnodes g b l err vInts w (.returned v) w') := ⟨v, rfl, hv, h1, h2⟩
  obtain ⟨n, a, c, rfl, _⟩ := hv
  clear h1 h2 HC
  go_wp2
  go_ret
  exact H.out
end Go.Proofs.YtbgofajldkblmaaGreat
/- rec: readOpen, readDone, readChange. Own lemmas, no statement. -/
set_option linter.unusedSimpArgs false
set_option linter.unusedVariables false
namespace Go.Proofs.YtbgofajldkblmaaGreat
open Go.ChangeShapes Go.WideShapes Go.ChangeAt Go.RowKit

theorem rtk_mem {α : Type} {f : RF α} {P : α → Prop} (h : ∀ l e, P (f l e).1) : ∀ (k : Nat) (l : List UInt8) (e : Nat), ∀ x ∈ (rtk f k l e).1, P x
  | 0, l, e => fun x hx => by simp [rtk] at hx
  | k + 1, l, e => fun x hx => by
    unfold rtk at hx
    rcases List.mem_append.1 hx with h1 | h1
    · exact rtk_mem h k l e x h1
    · simp at h1
      rw [h1]
      exact h _ _
theorem rstr_size (M : Nat) (l : List UInt8) (e : Nat) : (rstr M l e).1.size ≤ M := (rtext_facts l e M).1
theorem rreads_size (l : List UInt8) (e : Nat) : ∀ s ∈ (rreads l e).1, s.size ≤ 24 := rtk_mem (fun l e => rstr_size 24 l e) _ _ _
theorem rint_le (M : Nat) (l : List UInt8) (e : Nat) : 0 ≤ (rint M l e).1 ∧ (rint M l e).1 ≤ (M : Int) := by
  have h : (rnum l e M).1 ≤ M := rnum_le _ _ _
  unfold rint
  exact ⟨by simp, by simp only; omega⟩

set_option maxRecDepth 100000 in
set_option maxHeartbeats 4000000 in
theorem ropen_read (g b : Nat) (l : List UInt8) (err : Nat) (w : World) (h : Rdr w g b l err) : Calls Tryz.prog 86 #[.pointer (some ⟨g, 0, none⟩)] w (ReadP ropen g b l err vOpen w) := by
  obtain ⟨T, hT⟩ : ∃ x, x = rtidI l err := ⟨_, rfl⟩
  obtain ⟨A, hA⟩ : ∃ x, x = rint 4611686018427387904 T.2.1 T.2.2 := ⟨_, rfl⟩
  obtain ⟨B, hB⟩ : ∃ x, x = rint 4611686018427387904 A.2.1 A.2.2 := ⟨_, rfl⟩
  obtain ⟨C, hC⟩ : ∃ x, x = rint 1073741824 B.2.1 B.2.2 := ⟨_, rfl⟩
  obtain ⟨F, hF⟩ : ∃ x, x = rflag C.2.1 C.2.2 := ⟨_, rfl⟩
  obtain ⟨R, hR⟩ : ∃ x, x = rreads F.2.1 F.2.2 := ⟨_, rfl⟩
  have HP : ropen l err = ((OpenQ.mk T.1.1 T.1.2 A.1 B.1 C.1 F.1 R.1), R.2.1, R.2.2) := by subst hR hF hC hB hA hT; rfl
  have HQ : Hid (∀ W v w', (vOpen W.heap.size w' v (OpenQ.mk T.1.1 T.1.2 A.1 B.1 C.1 F.1 R.1) ∧ Rdr w' g b R.2.1 R.2.2 ∧ W.grownBy w' (some g)) → ReadP ropen g b l err vOpen W (.returned v) w') := fun W v w' hh => ⟨v, rfl, by rw [HP]; exact hh.1, by rw [HP]; exact hh.2.1, hh.2.2⟩
  have HCT : Hid (∀ W, Rdr W g b l err → Calls Tryz.prog 35 #[.pointer (some ⟨g, 0, none⟩)] W fun e w' => ∃ v, e = .returned v ∧ vTid W.heap.size w' v T.1 ∧ Rdr w' g b T.2.1 T.2.2 ∧ W.grownBy w' (some g)) := fun W hW => by subst hT; exact rtid_read g b _ _ W hW
  have HCA : Hid (∀ W, Rdr W g b T.2.1 T.2.2 → Calls Tryz.prog 34 #[.pointer (some ⟨g, 0, none⟩), .int .u64 4611686018427387904] W fun e w' => ∃ v, e = .returned v ∧ vU64 W.heap.size w' v A.1 ∧ Rdr w' g b A.2.1 A.2.2 ∧ W.grownBy w' (some g)) := fun W hW => by subst hA; exact rint_read 4611686018427387904 g b _ _ W hW
  have HCB : Hid (∀ W, Rdr W g b A.2.1 A.2.2 → Calls Tryz.prog 34 #[.pointer (some ⟨g, 0, none⟩), .int .u64 4611686018427387904] W fun e w' => ∃ v, e = .returned v ∧ vU64 W.heap.size w' v B.1 ∧ Rdr w' g b B.2.1 B.2.2 ∧ W.grownBy w' (some g)) := fun W hW => by subst hB; exact rint_read 4611686018427387904 g b _ _ W hW
  have HCC : Hid (∀ W, Rdr W g b B.2.1 B.2.2 → Calls Tryz.prog 34 #[.pointer (some ⟨g, 0, none⟩), .int .u64 1073741824] W fun e w' => ∃ v, e = .returned v ∧ vU64 W.heap.size w' v C.1 ∧ Rdr w' g b C.2.1 C.2.2 ∧ W.grownBy w' (some g)) := fun W hW => by subst hC; exact rint_read 1073741824 g b _ _ W hW
  have FC : 0 ≤ C.1 ∧ C.1 ≤ 1073741824 := by subst hC; exact rint_le 1073741824 _ _
  have HCF : Hid (∀ W, Rdr W g b C.2.1 C.2.2 → Calls Tryz.prog 81 #[.pointer (some ⟨g, 0, none⟩)] W fun e w' => ∃ v, e = .returned v ∧ vBool W.heap.size w' v F.1 ∧ Rdr w' g b F.2.1 F.2.2 ∧ W.grownBy w' (some g)) := fun W hW => by subst hF; exact rflag_read g b _ _ W hW
  have HCR : Hid (∀ W, Rdr W g b F.2.1 F.2.2 → Calls Tryz.prog 83 #[.pointer (some ⟨g, 0, none⟩)] W fun e w' => ∃ v, e = .returned v ∧ vStrs W.heap.size w' v R.1 ∧ Rdr w' g b R.2.1 R.2.2 ∧ W.grownBy w' (some g)) := fun W hW => by subst hR; exact rreads_read g b _ _ W hW
  have FR : ∀ s ∈ R.1, s.size ≤ 24 := by subst hR; exact rreads_size _ _
  clear HP hR hF hC hB hA hT
  obtain ⟨⟨tx, ty⟩, Tl, Te⟩ := T
  obtain ⟨Av, Al, Ae⟩ := A
  obtain ⟨Bv, Bl, Be⟩ := B
  obtain ⟨Cv, Cl, Ce⟩ := C
  obtain ⟨Fv, Fl, Fe⟩ := F
  obtain ⟨Rv, Rl, Re⟩ := R
  simp only at FC FR
  have HGB : Hid (g < w.heap.size ∧ b < w.heap.size) := ⟨h.lt, h.2.1⟩
  have HB : Hid (Blk (w.alloc (.cells #[.int .u64 0, .int .i64 0, .int .u64 0, .int .u64 0, .int .i64 0, .bool false, .slice none 0 0] 45)) w.heap.size #[.int .u64 0, .int .i64 0, .int .u64 0, .int .u64 0, .int .i64 0, .bool false, .slice none 0 0] 45) := Blk.new _ _ _
  have HR : Hid (Rdr (w.alloc (.cells #[.int .u64 0, .int .i64 0, .int .u64 0, .int .u64 0, .int .i64 0, .bool false, .slice none 0 0] 45)) g b l err) := h.below (below_allocR _)
  have HG : Hid (w.grownBy (w.alloc (.cells #[.int .u64 0, .int .i64 0, .int .u64 0, .int .u64 0, .int .i64 0, .bool false, .slice none 0 0] 45)) (some g)) := World.grownBy_alloc _ _ _
  have HSZ : Hid (w.heap.size < (w.alloc (.cells #[.int .u64 0, .int .i64 0, .int .u64 0, .int .u64 0, .int .i64 0, .bool false, .slice none 0 0] 45)).heap.size) := by show _ < _; simp
  clear h
  go_enter Tryz.func86, Tryz.ntmps86
  go_upto_region 1 with fail
  generalize (w.alloc (.cells #[.int .u64 0, .int .i64 0, .int .u64 0, .int .u64 0, .int .i64 0, .bool false, .slice none 0 0] 45)) = w0 at *
  have HCC : Hid (Calls _ _ _ _ _) := HCT.out w0 HR.out
  go_wp2_with fail
  refine HCC.out.mono ?_
  rintro e w1 ⟨v0, rfl, hv0, h1, h2⟩
  have HB' : Hid (Blk w1 w.heap.size #[.int .u64 0, .int .i64 0, .int .u64 0, .int .u64 0, .int .i64 0, .bool false, .slice none 0 0] 45) := Blk.of HB.out (h2.block _ HB.out.lt (fun e => by cases e; exact absurd HGB.out.1 (Nat.lt_irrefl _)))
  have HR' : Hid (Rdr w1 g b Tl Te) := h1
  have HG' : Hid (w.grownBy w1 (some g)) := grownBy_trans HG.out h2
  have HSZ' : Hid (w.heap.size < w1.heap.size) := Nat.lt_of_lt_of_le HSZ.out h2.size
  have hv0' : v0 = .agg #[.int .u64 tx, .int .i64 ty] := hv0
  subst hv0'
  clear hv0
  clear h1 h2 HCC HB HR HG HSZ
  have HB := HB'
  have HR := HR'
  have HG := HG'
  have HSZ := HSZ'
  clear HB' HR' HG' HSZ'
  have HCC : Hid (Calls _ _ _ _ _) := HCA.out w1 HR.out
  go_wp2_with fail
  refine HCC.out.mono ?_
  rintro e w2 ⟨v1, rfl, hv1, h1, h2⟩
  have HB' : Hid (Blk w2 w.heap.size #[.int .u64 0, .int .i64 0, .int .u64 0, .int .u64 0, .int .i64 0, .bool false, .slice none 0 0] 45) := Blk.of HB.out (h2.block _ HB.out.lt (fun e => by cases e; exact absurd HGB.out.1 (Nat.lt_irrefl _)))
  have HR' : Hid (Rdr w2 g b Al Ae) := h1
  have HG' : Hid (w.grownBy w2 (some g)) := grownBy_trans HG.out h2
  have HSZ' : Hid (w.heap.size < w2.heap.size) := Nat.lt_of_lt_of_le HSZ.out h2.size
  have hv1' : v1 = .int .u64 Av := hv1
  subst hv1'
  clear hv1
  clear h1 h2 HCC HB HR HG HSZ
  have HB := HB'
  have HR := HR'
  have HG := HG'
  have HSZ := HSZ'
  clear HB' HR' HG' HSZ'
  have HCC : Hid (Calls _ _ _ _ _) := HCB.out w2 HR.out
  go_wp2_with fail
  refine HCC.out.mono ?_
  rintro e w3 ⟨v2, rfl, hv2, h1, h2⟩
  have HB' : Hid (Blk w3 w.heap.size #[.int .u64 0, .int .i64 0, .int .u64 0, .int .u64 0, .int .i64 0, .bool false, .slice none 0 0] 45) := Blk.of HB.out (h2.block _ HB.out.lt (fun e => by cases e; exact absurd HGB.out.1 (Nat.lt_irrefl _)))
  have HR' : Hid (Rdr w3 g b Bl Be) := h1
  have HG' : Hid (w.grownBy w3 (some g)) := grownBy_trans HG.out h2
  have HSZ' : Hid (w.heap.size < w3.heap.size) := Nat.lt_of_lt_of_le HSZ.out h2.size
  have hv2' : v2 = .int .u64 Bv := hv2
  subst hv2'
  clear hv2
  clear h1 h2 HCC HB HR HG HSZ
  have HB := HB'
  have HR := HR'
  have HG := HG'
  have HSZ := HSZ'
  clear HB' HR' HG' HSZ'
  have HCC : Hid (Calls _ _ _ _ _) := HCC.out w3 HR.out
  go_wp2_with fail
  refine HCC.out.mono ?_
  rintro e w4 ⟨v3, rfl, hv3, h1, h2⟩
  have HB' : Hid (Blk w4 w.heap.size #[.int .u64 0, .int .i64 0, .int .u64 0, .int .u64 0, .int .i64 0, .bool false, .slice none 0 0] 45) := Blk.of HB.out (h2.block _ HB.out.lt (fun e => by cases e; exact absurd HGB.out.1 (Nat.lt_irrefl _)))
  have HR' : Hid (Rdr w4 g b Cl Ce) := h1
  have HG' : Hid (w.grownBy w4 (some g)) := grownBy_trans HG.out h2
  have HSZ' : Hid (w.heap.size < w4.heap.size) := Nat.lt_of_lt_of_le HSZ.out h2.size
  have hv3' : v3 = .int .u64 Cv := hv3
  subst hv3'
  clear hv3
  clear h1 h2 HCC HB HR HG HSZ
  have HB := HB'
  have HR := HR'
  have HG := HG'
  have HSZ := HSZ'
  clear HB' HR' HG' HSZ'
  have HCC : Hid (Calls _ _ _ _ _) := HCF.out w4 HR.out
  go_wp2_with fail
  refine HCC.out.mono ?_
  rintro e w5 ⟨v4, rfl, hv4, h1, h2⟩
  have HB' : Hid (Blk w5 w.heap.size #[.int .u64 0, .int .i64 0, .int .u64 0, .int .u64 0, .int .i64 0, .bool false, .slice none 0 0] 45) := Blk.of HB.out (h2.block _ HB.out.lt (fun e => by cases e; exact absurd HGB.out.1 (Nat.lt_irrefl _)))
  have HR' : Hid (Rdr w5 g b Fl Fe) := h1
  have HG' : Hid (w.grownBy w5 (some g)) := grownBy_trans HG.out h2
  have HSZ' : Hid (w.heap.size < w5.heap.size) := Nat.lt_of_lt_of_le HSZ.out h2.size
  have hv4' : v4 = .bool Fv := hv4
  subst hv4'
  clear hv4
  clear h1 h2 HCC HB HR HG HSZ
  have HB := HB'
  have HR := HR'
  have HG := HG'
  have HSZ := HSZ'
  clear HB' HR' HG' HSZ'
  have HCC : Hid (Calls _ _ _ _ _) := HCR.out w5 HR.out
  go_wp2_with fail
  refine HCC.out.mono ?_
  rintro e w6 ⟨v5, rfl, hv5, h1, h2⟩
  have HB' : Hid (Blk w6 w.heap.size #[.int .u64 0, .int .i64 0, .int .u64 0, .int .u64 0, .int .i64 0, .bool false, .slice none 0 0] 45) := Blk.of HB.out (h2.block _ HB.out.lt (fun e => by cases e; exact absurd HGB.out.1 (Nat.lt_irrefl _)))
  have HR' : Hid (Rdr w6 g b Rl Re) := h1
  have HG' : Hid (w.grownBy w6 (some g)) := grownBy_trans HG.out h2
  have HSZ' : Hid (w.heap.size < w6.heap.size) := Nat.lt_of_lt_of_le HSZ.out h2.size
  obtain ⟨n5, a5, c5, rfl, hs5⟩ := hv5
  have HS5 : Hid (StaI w5.heap.size w6.heap.size w6 _) := hs5
  have HO5 : Hid (w.heap.size < w5.heap.size) := HSZ.out
  clear hs5
  clear h1 h2 HCC HB HR HG HSZ
  have HB := HB'
  have HR := HR'
  have HG := HG'
  have HSZ := HSZ'
  clear HB' HR' HG' HSZ'
  have z0 := HB.out.cell 0
  have f0 := HB.out.frozen 0
  have z1 := HB.out.cell 1
  have f1 := HB.out.frozen 1
  have z2 := HB.out.cell 2
  have f2 := HB.out.frozen 2
  have z3 := HB.out.cell 3
  have f3 := HB.out.frozen 3
  have z4 := HB.out.cell 4
  have f4 := HB.out.frozen 4
  have z5 := HB.out.cell 5
  have f5 := HB.out.frozen 5
  have z6 := HB.out.cell 6
  have f6 := HB.out.frozen 6
  go_wp2
  have K1 : Blk (putL w6 w.heap.size 0 [.int .u64 tx, .int .i64 ty, .int .u64 Av, .int .u64 Bv, .int .i64 Cv, .bool Fv, .slice a5 n5 c5]) w.heap.size #[.int .u64 tx, .int .i64 ty, .int .u64 Av, .int .u64 Bv, .int .i64 Cv, .bool Fv, .slice a5 n5 c5] 45 := putL_all [.int .u64 tx, .int .i64 ty, .int .u64 Av, .int .u64 Bv, .int .i64 Cv, .bool Fv, .slice a5 n5 c5] HB.out rfl
  have K3 : ∀ j, j ≠ w.heap.size → (putL w6 w.heap.size 0 [.int .u64 tx, .int .i64 ty, .int .u64 Av, .int .u64 Bv, .int .i64 Cv, .bool Fv, .slice a5 n5 c5]).heap[j]? = w6.heap[j]? := fun j hj => putL_other _ _ hj _ _ _
  have K4 := putL_size w.heap.size [.int .u64 tx, .int .i64 ty, .int .u64 Av, .int .u64 Bv, .int .i64 Cv, .bool Fv, .slice a5 n5 c5] 0 w6
  have K2 : w.grownBy (putL w6 w.heap.size 0 [.int .u64 tx, .int .i64 ty, .int .u64 Av, .int .u64 Bv, .int .i64 Cv, .bool Fv, .slice a5 n5 c5]) (some g) := by
    have h0 := putL_below (B := w.heap.size) (Nat.le_refl _) [.int .u64 tx, .int .i64 ty, .int .u64 Av, .int .u64 Bv, .int .i64 Cv, .bool Fv, .slice a5 n5 c5] 0 w6 (Below.refl _ w6)
    exact ⟨h0.os.trans HG.out.os, h0.tape.trans HG.out.tape, h0.output.trans HG.out.output, Nat.le_trans HG.out.size h0.size, fun i hi hr => (h0.block i hi).trans (HG.out.block i hi hr)⟩
  have hgo : ∀ (Q : World → Prop), Q (putL w6 w.heap.size 0 [.int .u64 tx, .int .i64 ty, .int .u64 Av, .int .u64 Bv, .int .i64 Cv, .bool Fv, .slice a5 n5 c5]) → Q (((((((w6.setCell ⟨w.heap.size, 0, none⟩ (.int .u64 tx)).setCell ⟨w.heap.size, 1, none⟩ (.int .i64 ty)).setCell ⟨w.heap.size, 2, none⟩ (.int .u64 Av)).setCell ⟨w.heap.size, 3, none⟩ (.int .u64 Bv)).setCell ⟨w.heap.size, 4, none⟩ (.int .i64 Cv)).setCell ⟨w.heap.size, 5, none⟩ (.bool Fv)).setCell ⟨w.heap.size, 6, none⟩ (.slice a5 n5 c5)) := fun _ h => h
  refine hgo _ ?_
  clear hgo z0 f0 z1 f1 z2 f2 z3 f3 z4 f4 z5 f5 z6 f6
  generalize (putL w6 w.heap.size 0 [.int .u64 tx, .int .i64 ty, .int .u64 Av, .int .u64 Bv, .int .i64 Cv, .bool Fv, .slice a5 n5 c5]) = W9 at *
  have z0 := K1.cell 0
  have z1 := K1.cell 1
  have z2 := K1.cell 2
  have z3 := K1.cell 3
  have z4 := K1.cell 4
  have z5 := K1.cell 5
  have z6 := K1.cell 6
  simp only [List.getElem?_toArray, List.getElem?_cons_zero, List.getElem?_cons_succ] at z0 z1 z2 z3 z4 z5 z6
  exact bodyPost_ret (v := .agg #[.int .u64 tx, .int .i64 ty, .int .u64 Av, .int .u64 Bv, .int .i64 Cv, .bool Fv, .slice a5 n5 c5]) (by simp [results, Tryz.results86, go_sem, z0, z1, z2, z3, z4, z5, z6]) rfl (HQ.out w _ _ ⟨⟨OpenV.mk tx ty Av Bv Cv Fv a5 n5 c5 Rv, rfl, rfl, ((HS5.out.move fun i h1 h2 => K3 i (by have := HO5.out; omega)).wide (Nat.le_of_lt HO5.out) K4).mono fun W hW => ⟨hW, fun s hs => Nat.le_trans (FR s hs) (by decide)⟩⟩, HR.out.kept K4 (K3 g (by have := HGB.out.1; omega)) (K3 b (by have := HGB.out.2; omega)), K2⟩)

set_option maxRecDepth 100000 in
set_option maxHeartbeats 4000000 in
theorem rdone_read (g b : Nat) (l : List UInt8) (err : Nat) (w : World) (h : Rdr w g b l err) : Calls Tryz.prog 88 #[.pointer (some ⟨g, 0, none⟩)] w (ReadP rdone g b l err vDone w) := by
  obtain ⟨T, hT⟩ : ∃ x, x = rtidI l err := ⟨_, rfl⟩
  obtain ⟨R, hR⟩ : ∃ x, x = rnodes T.2.1 T.2.2 := ⟨_, rfl⟩
  have HP : rdone l err = ((DoneQ.mk T.1.1 T.1.2 R.1), R.2.1, R.2.2) := by subst hR hT; rfl
  have HQ : Hid (∀ W v w', (vDone W.heap.size w' v (DoneQ.mk T.1.1 T.1.2 R.1) ∧ Rdr w' g b R.2.1 R.2.2 ∧ W.grownBy w' (some g)) → ReadP rdone g b l err vDone W (.returned v) w') := fun W v w' hh => ⟨v, rfl, by rw [HP]; exact hh.1, by rw [HP]; exact hh.2.1, hh.2.2⟩
  have HCT : Hid (∀ W, Rdr W g b l err → Calls Tryz.prog 35 #[.pointer (some ⟨g, 0, none⟩)] W fun e w' => ∃ v, e = .returned v ∧ vTid W.heap.size w' v T.1 ∧ Rdr w' g b T.2.1 T.2.2 ∧ W.grownBy w' (some g)) := fun W hW => by subst hT; exact rtid_read g b _ _ W hW
  have HCR : Hid (∀ W, Rdr W g b T.2.1 T.2.2 → Calls Tryz.prog 84 #[.pointer (some ⟨g, 0, none⟩)] W fun e w' => ∃ v, e = .returned v ∧ vInts W.heap.size w' v R.1 ∧ Rdr w' g b R.2.1 R.2.2 ∧ W.grownBy w' (some g)) := fun W hW => by subst hR; exact rnodes_read g b _ _ W hW
  clear HP hR hT
  obtain ⟨⟨tx, ty⟩, Tl, Te⟩ := T
  obtain ⟨Rv, Rl, Re⟩ := R
  have HGB : Hid (g < w.heap.size ∧ b < w.heap.size) := ⟨h.lt, h.2.1⟩
  have HB : Hid (Blk (w.alloc (.cells #[.int .u64 0, .int .i64 0, .slice none 0 0] 51)) w.heap.size #[.int .u64 0, .int .i64 0, .slice none 0 0] 51) := Blk.new _ _ _
  have HR : Hid (Rdr (w.alloc (.cells #[.int .u64 0, .int .i64 0, .slice none 0 0] 51)) g b l err) := h.below (below_allocR _)
  have HG : Hid (w.grownBy (w.alloc (.cells #[.int .u64 0, .int .i64 0, .slice none 0 0] 51)) (some g)) := World.grownBy_alloc _ _ _
  have HSZ : Hid (w.heap.size < (w.alloc (.cells #[.int .u64 0, .int .i64 0, .slice none 0 0] 51)).heap.size) := by show _ < _; simp
  clear h
  go_enter Tryz.func88, Tryz.ntmps88
  go_upto_region 1 with fail
  generalize (w.alloc (.cells #[.int .u64 0, .int .i64 0, .slice none 0 0] 51)) = w0 at *
  have HCC : Hid (Calls _ _ _ _ _) := HCT.out w0 HR.out
  go_wp2_with fail
  refine HCC.out.mono ?_
  rintro e w1 ⟨v0, rfl, hv0, h1, h2⟩
  have HB' : Hid (Blk w1 w.heap.size #[.int .u64 0, .int .i64 0, .slice none 0 0] 51) := Blk.of HB.out (h2.block _ HB.out.lt (fun e => by cases e; exact absurd HGB.out.1 (Nat.lt_irrefl _)))
  have HR' : Hid (Rdr w1 g b Tl Te) := h1
  have HG' : Hid (w.grownBy w1 (some g)) := grownBy_trans HG.out h2
  have HSZ' : Hid (w.heap.size < w1.heap.size) := Nat.lt_of_lt_of_le HSZ.out h2.size
  have hv0' : v0 = .agg #[.int .u64 tx, .int .i64 ty] := hv0
  subst hv0'
  clear hv0
  clear h1 h2 HCC HB HR HG HSZ
  have HB := HB'
  have HR := HR'
  have HG := HG'
  have HSZ := HSZ'
  clear HB' HR' HG' HSZ'
  have HCC : Hid (Calls _ _ _ _ _) := HCR.out w1 HR.out
  go_wp2_with fail
  refine HCC.out.mono ?_
  rintro e w2 ⟨v1, rfl, hv1, h1, h2⟩
  have HB' : Hid (Blk w2 w.heap.size #[.int .u64 0, .int .i64 0, .slice none 0 0] 51) := Blk.of HB.out (h2.block _ HB.out.lt (fun e => by cases e; exact absurd HGB.out.1 (Nat.lt_irrefl _)))
  have HR' : Hid (Rdr w2 g b Rl Re) := h1
  have HG' : Hid (w.grownBy w2 (some g)) := grownBy_trans HG.out h2
  have HSZ' : Hid (w.heap.size < w2.heap.size) := Nat.lt_of_lt_of_le HSZ.out h2.size
  obtain ⟨n1, a1, c1, rfl, hs1⟩ := hv1
  have HS1 : Hid (StaI w1.heap.size w2.heap.size w2 _) := hs1
  have HO1 : Hid (w.heap.size < w1.heap.size) := HSZ.out
  clear hs1
  clear h1 h2 HCC HB HR HG HSZ
  have HB := HB'
  have HR := HR'
  have HG := HG'
  have HSZ := HSZ'
  clear HB' HR' HG' HSZ'
  have z0 := HB.out.cell 0
  have f0 := HB.out.frozen 0
  have z1 := HB.out.cell 1
  have f1 := HB.out.frozen 1
  have z2 := HB.out.cell 2
  have f2 := HB.out.frozen 2
  go_wp2
  have K1 : Blk (putL w2 w.heap.size 0 [.int .u64 tx, .int .i64 ty, .slice a1 n1 c1]) w.heap.size #[.int .u64 tx, .int .i64 ty, .slice a1 n1 c1] 51 := putL_all [.int .u64 tx, .int .i64 ty, .slice a1 n1 c1] HB.out rfl
  have K3 : ∀ j, j ≠ w.heap.size → (putL w2 w.heap.size 0 [.int .u64 tx, .int .i64 ty, .slice a1 n1 c1]).heap[j]? = w2.heap[j]? := fun j hj => putL_other _ _ hj _ _ _
  have K4 := putL_size w.heap.size [.int .u64 tx, .int .i64 ty, .slice a1 n1 c1] 0 w2
  have K2 : w.grownBy (putL w2 w.heap.size 0 [.int .u64 tx, .int .i64 ty, .slice a1 n1 c1]) (some g) := by
    have h0 := putL_below (B := w.heap.size) (Nat.le_refl _) [.int .u64 tx, .int .i64 ty, .slice a1 n1 c1] 0 w2 (Below.refl _ w2)
    exact ⟨h0.os.trans HG.out.os, h0.tape.trans HG.out.tape, h0.output.trans HG.out.output, Nat.le_trans HG.out.size h0.size, fun i hi hr => (h0.block i hi).trans (HG.out.block i hi hr)⟩
  have hgo : ∀ (Q : World → Prop), Q (putL w2 w.heap.size 0 [.int .u64 tx, .int .i64 ty, .slice a1 n1 c1]) → Q (((w2.setCell ⟨w.heap.size, 0, none⟩ (.int .u64 tx)).setCell ⟨w.heap.size, 1, none⟩ (.int .i64 ty)).setCell ⟨w.heap.size, 2, none⟩ (.slice a1 n1 c1)) := fun _ h => h
  refine hgo _ ?_
  clear hgo z0 f0 z1 f1 z2 f2
  generalize (putL w2 w.heap.size 0 [.int .u64 tx, .int .i64 ty, .slice a1 n1 c1]) = W9 at *
  have z0 := K1.cell 0
  have z1 := K1.cell 1
  have z2 := K1.cell 2
  simp only [List.getElem?_toArray, List.getElem?_cons_zero, List.getElem?_cons_succ] at z0 z1 z2
  exact bodyPost_ret (v := .agg #[.int .u64 tx, .int .i64 ty, .slice a1 n1 c1]) (by simp [results, Tryz.results88, go_sem, z0, z1, z2]) rfl (HQ.out w _ _ ⟨⟨DoneV.mk tx ty a1 n1 c1 Rv, rfl, rfl, ((HS1.out.move fun i h1 h2 => K3 i (by have := HO1.out; omega)).wide (Nat.le_of_lt HO1.out) K4).mono fun W hW => ⟨hW⟩⟩, HR.out.kept K4 (K3 g (by have := HGB.out.1; omega)) (K3 b (by have := HGB.out.2; omega)), K2⟩)

theorem image_any (S : ByteArray) (v : Value) (w : World) (hs : Src w v S.data.toList) (hl : S.size ≤ 512) : Calls Tryz.prog 110 #[v] w fun e w' => ∃ kv vv dv X Y, e = .returned (.tuple #[pgv (rimage S) kv vv dv, .int .u64 X, .int .i64 Y]) ∧ PgO w' w.heap.size (rimage S) kv vv dv ∧ Below w.heap.size w w' := by
  have h1 : S.data.toList.length = S.size := rfl
  refine (decode_own v S.data.toList w hs (by omega)).mono ?_
  rintro e w' ⟨h, y⟩
  unfold rimage
  split at h
  · rename_i hd
    rw [if_pos hd]
    obtain ⟨kv, vv, dv, he, ho⟩ := h
    exact ⟨kv, vv, dv, _, _, he, ho, y⟩
  · rename_i hd
    rw [if_neg hd]
    exact ⟨_, _, _, _, _, h, ⟨OwnV.nil _ _ _, OwnV.nil _ _ _, OwnV.nil _ _ _, fun g e => (by cases e), fun g e => (by cases e), fun g e => (by cases e)⟩, y⟩
theorem image_ok (S : ByteArray) : (rimage S).Ok := by
  unfold rimage
  split
  · exact body_ok _ (rnum_le _ _ _) _ _
  · refine ⟨fun s hs => (by cases hs), fun s hs => (by cases hs), fun n hn => (by cases hn), ?_, ?_, ?_, ?_, ?_⟩ <;> simp [Pg.zero]
theorem pgO_sta {W : World} {B : Nat} {p : Pg} {kv vv dv : Value} (h : PgO W B p kv vv dv) : StaI B W.heap.size W fun W => PgAt W p kv vv dv := fun W2 h2 =>
  ⟨ownV_sta h.keys W2 h2, ownV_sta h.vals W2 h2, ownV_sta h.kids W2 h2⟩
theorem bytesW_below (w : World) (e : TypeId) (s : ByteArray) : Below w.heap.size w (Lib.bytesWorld w e s) :=
  ⟨rfl, rfl, rfl, by rw [Lib.bytesWorld_size]; omega, fun k hk => Lib.bytesWorld_at_old w e s k hk⟩
theorem bytesW_src (w : World) (s : ByteArray) (hs : s.size ≤ 512) : Src (Lib.bytesWorld w 5 s) (.slice (some ⟨w.heap.size, 0, none⟩) s.size (grownCap w s.size 0 5)) s.data.toList := by
  have hl : s.data.toList.length = s.size := rfl
  refine ⟨some ⟨w.heap.size, 0, none⟩, grownCap w s.size 0 5, by rw [hl], by rw [hl]; exact grownCap_ge _ _ _ _, grownCap_le_maxLen _ _ _ _ (by unfold maxLen; omega), fun e => (by cases e), fun ad had j u hu => ?_⟩
  cases had
  have hj : j < s.data.toList.length := by
    have := (List.getElem?_eq_some_iff.1 hu).1
    simpa [bv] using this
  rw [show (⟨w.heap.size, 0, none⟩ : Addr).add j = ⟨w.heap.size, j, none⟩ by by_cases h0 : j = 0 <;> simp [Addr.add, h0], Lib.bytesWorld_cell _ _ _ _ (by omega), ← hu]
  have hj2 : j < s.data.size := by simpa using hj
  simp [bv, List.getD, hj2, Array.getElem?_eq_getElem hj2]

set_option maxRecDepth 100000 in
set_option maxHeartbeats 4000000 in
theorem rchg_read (g b : Nat) (l : List UInt8) (err : Nat) (w : World) (h : Rdr w g b l err) : Calls Tryz.prog 103 #[.pointer (some ⟨g, 0, none⟩)] w (ReadP rchg g b l err vChg w) := by
  obtain ⟨N, hN⟩ : ∃ x, x = rint 65535 l err := ⟨_, rfl⟩
  obtain ⟨S, hS⟩ : ∃ x, x = rstr 512 N.2.1 N.2.2 := ⟨_, rfl⟩
  have HP : rchg l err = (ChgQ.mk N.1 (rimage S.1), S.2.1, S.2.2) := by subst hS hN; rfl
  have HQ : Hid (∀ W v w', (vChg W.heap.size w' v (ChgQ.mk N.1 (rimage S.1)) ∧ Rdr w' g b S.2.1 S.2.2 ∧ W.grownBy w' (some g)) → ReadP rchg g b l err vChg W (.returned v) w') := fun W v w' hh => ⟨v, rfl, by rw [HP]; exact hh.1, by rw [HP]; exact hh.2.1, hh.2.2⟩
  have HCN : Hid (∀ W, Rdr W g b l err → Calls Tryz.prog 34 #[.pointer (some ⟨g, 0, none⟩), .int .u64 65535] W fun e w' => ∃ v, e = .returned v ∧ vU64 W.heap.size w' v N.1 ∧ Rdr w' g b N.2.1 N.2.2 ∧ W.grownBy w' (some g)) := fun W hW => by subst hN; exact rint_read 65535 g b _ _ W hW
  have HCS : Hid (∀ W, Rdr W g b N.2.1 N.2.2 → Calls Tryz.prog 80 #[.pointer (some ⟨g, 0, none⟩), .int .i64 512] W fun e w' => ∃ v, e = .returned v ∧ vStr W.heap.size w' v S.1 ∧ Rdr w' g b S.2.1 S.2.2 ∧ W.grownBy w' (some g)) := fun W hW => by subst hS; exact rstr_read 512 (by omega) g b _ _ W hW
  have FN : 0 ≤ N.1 ∧ N.1 ≤ 65535 := by subst hN; exact rint_le 65535 _ _
  have FSz : S.1.size ≤ 512 := by subst hS; exact rstr_size 512 _ _
  clear HP hS hN
  obtain ⟨Nv, Nl, Ne⟩ := N
  obtain ⟨Sv, Sl, Se⟩ := S
  simp only at FN FSz
  have HFS : Hid (Sv.size ≤ 512) := FSz
  have HGB : Hid (g < w.heap.size ∧ b < w.heap.size) := ⟨h.lt, h.2.1⟩
  have HB : Hid (Blk (w.alloc (.cells #[.int .i64 0, .int .i64 0, .slice none 0 0, .slice none 0 0, .slice none 0 0, .int .i64 0, .int .i64 0, .int .i64 0, .int .i64 0] 49)) w.heap.size #[.int .i64 0, .int .i64 0, .slice none 0 0, .slice none 0 0, .slice none 0 0, .int .i64 0, .int .i64 0, .int .i64 0, .int .i64 0] 49) := Blk.new _ _ _
  have HR : Hid (Rdr (w.alloc (.cells #[.int .i64 0, .int .i64 0, .slice none 0 0, .slice none 0 0, .slice none 0 0, .int .i64 0, .int .i64 0, .int .i64 0, .int .i64 0] 49)) g b l err) := h.below (below_allocR _)
  have HG : Hid (w.grownBy (w.alloc (.cells #[.int .i64 0, .int .i64 0, .slice none 0 0, .slice none 0 0, .slice none 0 0, .int .i64 0, .int .i64 0, .int .i64 0, .int .i64 0] 49)) (some g)) := World.grownBy_alloc _ _ _
  have kc : ∀ w, (convert 9 34 (.string Sv)).run Tryz.prog w = .ok (.slice (some ⟨w.heap.size, 0, none⟩) Sv.size (grownCap w Sv.size 0 5)) (Lib.bytesWorld w 5 Sv) := fun w => Lib.run_convert_string_bytes (P := Tryz.prog) w 9 34 5 Sv Tryz.underlying9 Tryz.underlying34 Tryz.underlying5
  clear h
  go_enter Tryz.func103, Tryz.ntmps103
  go_upto_region 1 with fail
  generalize (w.alloc (.cells #[.int .i64 0, .int .i64 0, .slice none 0 0, .slice none 0 0, .slice none 0 0, .int .i64 0, .int .i64 0, .int .i64 0, .int .i64 0] 49)) = w0 at *
  have HCC : Hid (Calls _ _ _ _ _) := HCN.out w0 HR.out
  go_wp2_with fail
  refine HCC.out.mono ?_
  rintro e w1 ⟨v0, rfl, hv0, h1, h2⟩
  have HB1 : Hid (Blk w1 w.heap.size #[.int .i64 0, .int .i64 0, .slice none 0 0, .slice none 0 0, .slice none 0 0, .int .i64 0, .int .i64 0, .int .i64 0, .int .i64 0] 49) := Blk.of HB.out (h2.block _ HB.out.lt (fun e => by cases e; exact absurd HGB.out.1 (Nat.lt_irrefl _)))
  have HR1 : Hid (Rdr w1 g b Nl Ne) := h1
  have HG1 : Hid (w.grownBy w1 (some g)) := grownBy_trans HG.out h2
  have hv0' : v0 = .int .u64 Nv := hv0
  subst hv0'
  clear hv0 h1 h2 HCC HB HR HG
  have HCC : Hid (Calls _ _ _ _ _) := HCS.out w1 HR1.out
  go_wp2_with fail
  refine HCC.out.mono ?_
  rintro e w2 ⟨v1, rfl, hv1, h1, h2⟩
  have HB2 : Hid (Blk w2 w.heap.size #[.int .i64 0, .int .i64 0, .slice none 0 0, .slice none 0 0, .slice none 0 0, .int .i64 0, .int .i64 0, .int .i64 0, .int .i64 0] 49) := Blk.of HB1.out (h2.block _ HB1.out.lt (fun e => by cases e; exact absurd HGB.out.1 (Nat.lt_irrefl _)))
  have HR2 : Hid (Rdr w2 g b Sl Se) := h1
  have HG2 : Hid (w.grownBy w2 (some g)) := grownBy_trans HG1.out h2
  have hv1' : v1 = .string Sv := hv1
  subst hv1'
  have HSR : Hid (Src (Lib.bytesWorld w2 5 Sv) (.slice (some ⟨w2.heap.size, 0, none⟩) Sv.size (grownCap w2 Sv.size 0 5)) Sv.data.toList) := bytesW_src w2 Sv FSz
  have HBY : Hid (Below w2.heap.size w2 (Lib.bytesWorld w2 5 Sv)) := bytesW_below _ _ _
  clear hv1 h1 h2 HCC HB1 HR1 HG1 FSz
  go_wp2_with fail
  generalize Lib.bytesWorld w2 5 Sv = w3 at *
  generalize grownCap w2 Sv.size 0 5 = cap at *
  refine (image_any Sv _ w3 HSR.out HFS.out).mono ?_
  rintro e w4 ⟨kv, vv, dv, X, Y, rfl, ho, y⟩
  have HOK : Hid (rimage Sv).Ok := image_ok Sv
  generalize rimage Sv = P at *
  have hy : Below w2.heap.size w2 w4 := ext_trans HBY.out y
  have HB4 : Hid (Blk w4 w.heap.size #[.int .i64 0, .int .i64 0, .slice none 0 0, .slice none 0 0, .slice none 0 0, .int .i64 0, .int .i64 0, .int .i64 0, .int .i64 0] 49) := Blk.of HB2.out (hy.block _ HB2.out.lt)
  have HR4 : Hid (Rdr w4 g b Sl Se) := HR2.out.below hy
  have HG4 : Hid (w.grownBy w4 (some g)) := grownBy_trans HG2.out (grown_of_below hy)
  have HLO : Hid (w.heap.size < w3.heap.size) := Nat.lt_of_lt_of_le HB2.out.lt HBY.out.size
  obtain ⟨ka, kc2, va, vc, da, dc, rfl, rfl, rfl, _, _, _⟩ := ho.at.forms
  generalize P.keys.length = kn at *
  generalize P.vals.length = vn at *
  generalize P.kids.length = dn at *
  have HST : Hid (StaI w3.heap.size w4.heap.size w4 fun W => PgAt W P (.slice ka kn kc2) (.slice va vn vc) (.slice da dn dc)) := pgO_sta ho
  clear kc ho y hy HB2 HR2 HG2 HSR HBY HFS
  obtain ⟨w5, hw5⟩ : ∃ x, x = w4.alloc (.cells #[.int .i64 P.kind, .slice ka kn kc2, .slice va vn vc, .slice da dn dc, .int .i64 P.root, .int .i64 P.next, .int .i64 P.size, .int .i64 P.idle] 47) := ⟨_, rfl⟩
  have HA5 : Hid (Below w4.heap.size w4 w5) := by rw [hw5]; exact below_allocR _
  have HP5 : Hid (PBox w5 w4.heap.size P (.slice ka kn kc2) (.slice va vn vc) (.slice da dn dc)) := by rw [hw5]; exact Blk.new _ _ _
  unfold pgv
  go_upto_region 3 with fail
  rw [← hw5]
  clear hw5
  have HB5 : Hid (Blk w5 w.heap.size #[.int .i64 0, .int .i64 0, .slice none 0 0, .slice none 0 0, .slice none 0 0, .int .i64 0, .int .i64 0, .int .i64 0, .int .i64 0] 49) := Blk.of HB4.out (HA5.out.block _ HB4.out.lt)
  have HR5 : Hid (Rdr w5 g b Sl Se) := HR4.out.below HA5.out
  have HG5 : Hid (w.grownBy w5 (some g)) := grownBy_trans HG4.out (grown_of_below HA5.out)
  have HST5 : Hid (StaI w3.heap.size w4.heap.size w5 fun W => PgAt W P (.slice ka kn kc2) (.slice va vn vc) (.slice da dn dc)) := HST.out.below (Nat.le_refl _) HA5.out
  have HSZ5 : Hid (w4.heap.size ≤ w5.heap.size) := HA5.out.size
  clear HB4 HR4 HG4 HST HA5
  obtain ⟨pb, hpb⟩ : ∃ x, w4.heap.size = x := ⟨_, rfl⟩
  rw [hpb] at HP5 HST5 HSZ5 ⊢
  clear hpb
  obtain ⟨y0, y1, y2, y3, y4, y5, y6, y7⟩ := HP5.out.cells
  have z0 := HB5.out.cell 0
  have f0 := HB5.out.frozen 0
  have z1 := HB5.out.cell 1
  have f1 := HB5.out.frozen 1
  have z2 := HB5.out.cell 2
  have f2 := HB5.out.frozen 2
  have z3 := HB5.out.cell 3
  have f3 := HB5.out.frozen 3
  have z4 := HB5.out.cell 4
  have f4 := HB5.out.frozen 4
  have z5 := HB5.out.cell 5
  have f5 := HB5.out.frozen 5
  have z6 := HB5.out.cell 6
  have f6 := HB5.out.frozen 6
  have z7 := HB5.out.cell 7
  have f7 := HB5.out.frozen 7
  have z8 := HB5.out.cell 8
  have f8 := HB5.out.frozen 8
  go_wp2
  have K1 : Blk (putL w5 w.heap.size 0 [.int .i64 Nv, .int .i64 P.kind, .slice ka kn kc2, .slice va vn vc, .slice da dn dc, .int .i64 P.root, .int .i64 P.next, .int .i64 P.size, .int .i64 P.idle]) w.heap.size #[.int .i64 Nv, .int .i64 P.kind, .slice ka kn kc2, .slice va vn vc, .slice da dn dc, .int .i64 P.root, .int .i64 P.next, .int .i64 P.size, .int .i64 P.idle] 49 := putL_all [.int .i64 Nv, .int .i64 P.kind, .slice ka kn kc2, .slice va vn vc, .slice da dn dc, .int .i64 P.root, .int .i64 P.next, .int .i64 P.size, .int .i64 P.idle] HB5.out rfl
  have K3 : ∀ j, j ≠ w.heap.size → (putL w5 w.heap.size 0 [.int .i64 Nv, .int .i64 P.kind, .slice ka kn kc2, .slice va vn vc, .slice da dn dc, .int .i64 P.root, .int .i64 P.next, .int .i64 P.size, .int .i64 P.idle]).heap[j]? = w5.heap[j]? := fun j hj => putL_other _ _ hj _ _ _
  have K4 := putL_size w.heap.size [.int .i64 Nv, .int .i64 P.kind, .slice ka kn kc2, .slice va vn vc, .slice da dn dc, .int .i64 P.root, .int .i64 P.next, .int .i64 P.size, .int .i64 P.idle] 0 w5
  have K2 : w.grownBy (putL w5 w.heap.size 0 [.int .i64 Nv, .int .i64 P.kind, .slice ka kn kc2, .slice va vn vc, .slice da dn dc, .int .i64 P.root, .int .i64 P.next, .int .i64 P.size, .int .i64 P.idle]) (some g) := by
    have h0 := putL_below (B := w.heap.size) (Nat.le_refl _) [.int .i64 Nv, .int .i64 P.kind, .slice ka kn kc2, .slice va vn vc, .slice da dn dc, .int .i64 P.root, .int .i64 P.next, .int .i64 P.size, .int .i64 P.idle] 0 w5 (Below.refl _ w5)
    exact ⟨h0.os.trans HG5.out.os, h0.tape.trans HG5.out.tape, h0.output.trans HG5.out.output, Nat.le_trans HG5.out.size h0.size, fun i hi hr => (h0.block i hi).trans (HG5.out.block i hi hr)⟩
  have hgo : ∀ (Q : World → Prop), Q (putL w5 w.heap.size 0 [.int .i64 Nv, .int .i64 P.kind, .slice ka kn kc2, .slice va vn vc, .slice da dn dc, .int .i64 P.root, .int .i64 P.next, .int .i64 P.size, .int .i64 P.idle]) → Q (((((((((w5.setCell ⟨w.heap.size, 0, none⟩ (.int .i64 Nv)).setCell ⟨w.heap.size, 1, none⟩ (.int .i64 P.kind)).setCell ⟨w.heap.size, 2, none⟩ (.slice ka kn kc2)).setCell ⟨w.heap.size, 3, none⟩ (.slice va vn vc)).setCell ⟨w.heap.size, 4, none⟩ (.slice da dn dc)).setCell ⟨w.heap.size, 5, none⟩ (.int .i64 P.root)).setCell ⟨w.heap.size, 6, none⟩ (.int .i64 P.next)).setCell ⟨w.heap.size, 7, none⟩ (.int .i64 P.size)).setCell ⟨w.heap.size, 8, none⟩ (.int .i64 P.idle)) := fun _ h => h
  refine hgo _ ?_
  clear hgo z0 f0 z1 f1 z2 f2 z3 f3 z4 f4 z5 f5 z6 f6 z7 f7 z8 f8 y0 y1 y2 y3 y4 y5 y6 y7
  generalize (putL w5 w.heap.size 0 [.int .i64 Nv, .int .i64 P.kind, .slice ka kn kc2, .slice va vn vc, .slice da dn dc, .int .i64 P.root, .int .i64 P.next, .int .i64 P.size, .int .i64 P.idle]) = W9 at *
  have z0 := K1.cell 0
  have z1 := K1.cell 1
  have z2 := K1.cell 2
  have z3 := K1.cell 3
  have z4 := K1.cell 4
  have z5 := K1.cell 5
  have z6 := K1.cell 6
  have z7 := K1.cell 7
  have z8 := K1.cell 8
  simp only [List.getElem?_toArray, List.getElem?_cons_zero, List.getElem?_cons_succ] at z0 z1 z2 z3 z4 z5 z6 z7 z8
  exact bodyPost_ret (v := .agg #[.int .i64 Nv, .int .i64 P.kind, .slice ka kn kc2, .slice va vn vc, .slice da dn dc, .int .i64 P.root, .int .i64 P.next, .int .i64 P.size, .int .i64 P.idle]) (by simp [results, Tryz.results103, go_sem, z0, z1, z2, z3, z4, z5, z6, z7, z8]) rfl (HQ.out w _ _ ⟨⟨ChgV.mk Nv P ka kn kc2 va vn vc da dn dc, rfl, rfl, ((HST5.out.move fun i h1 h2 => K3 i (by have := HLO.out; omega)).wide (Nat.le_of_lt HLO.out) (Nat.le_trans HSZ5.out K4)).mono fun W hW => ⟨hW, HOK.out⟩⟩, HR5.out.kept K4 (K3 g (by have := HGB.out.1; omega)) (K3 b (by have := HGB.out.2; omega)), K2⟩)
end Go.Proofs.YtbgofajldkblmaaGreat
/- rec: readAll of structs. Own lemmas, no statement. -/
set_option linter.unusedSimpArgs false
set_option linter.unusedVariables false
namespace Go.Proofs.YtbgofajldkblmaaGreat
open Go.ChangeShapes Go.WideShapes Go.ChangeAt Go.RowKit

theorem OpenV_len (x : OpenV) : (OpenV.c x).length = 7 := rfl
theorem OpenV_one (x : OpenV) : ∀ u ∈ OpenV.c x, u.oneCell' = true := by
  intro u hu
  simp only [OpenV.c, List.mem_cons, List.not_mem_nil, or_false] at hu
  rcases hu with rfl | rfl | rfl | rfl | rfl | rfl | rfl <;> rfl
theorem infoOpenV : (Tryz.prog.info? 45).map (fun i => (i.zero, i.size, i.bytes)) = some (some (.agg #[.int .u64 0, .int .i64 0, .int .u64 0, .int .u64 0, .int .i64 0, .bool false, .slice none 0 0]), 7, 72) := by kernel_rfl
set_option maxRecDepth 100000 in
set_option maxHeartbeats 4000000 in
theorem readAllO (most : Nat) (hm : most ≤ 1000) (g b : Nat) (l : List UInt8) (err : Nat) (w : World) (h : Rdr w g b l err) :
    Calls Tryz.prog 85 #[.pointer (some ⟨g, 0, none⟩), .int .u64 (most : Int), .func (.func 86) #[] #[]] w (ReadP (rall ropen most) g b l err (vRows 7 OpenV.c (fun W x => OpenV.At W x) OpenV.q) w) := by
  have HC : Hid (Calls _ _ _ _ _) := num_any g b l err most w h
  have hle : (rnum l err most).1 ≤ most := rnum_le _ _ _
  have HGB : Hid (g < w.heap.size ∧ b < w.heap.size) := ⟨h.lt, h.2.1⟩
  have HP : Hid (ReadP (rall ropen most) g b l err (vRows 7 OpenV.c (fun W x => OpenV.At W x) OpenV.q) w = ReadP (fun _ _ => rtk ropen (rnum l err most).1 (rnum l err most).2.1 (rnum l err most).2.2) g b l err (vRows 7 OpenV.c (fun W x => OpenV.At W x) OpenV.q) w) := rfl
  rw [HP.out]
  clear h HP
  generalize rnum l err most = R at *
  obtain ⟨N, L, E⟩ := R
  simp only at hle
  have hN : N ≤ 1000 := by omega
  clear hle hm
  go_enter Tryz.func85, Tryz.ntmps85
  go_wp2_with fail
  refine HC.out.mono ?_
  rintro e w1 ⟨rfl, h1, h2⟩
  have HR : Hid (Rdr w1 g b L E) := h1
  have HG : Hid (w.grownBy w1 (some g)) := h2
  clear h1 h2 HC
  go_wp2
  go_loopw [7, 11] (fun v i wr => ∃ (k : Nat) (xs : List OpenV), i = .int .u64 (k : Int) ∧ k ≤ N ∧ xs.length = k ∧ RowI wr w.heap.size 45 7 OpenV.c (fun W x => OpenV.At W x) v xs ∧ xs.map OpenV.q = (rtk ropen k L E).1 ∧ Rdr wr g b (rtk ropen k L E).2.1 (rtk ropen k L E).2.2 ∧ w.grownBy wr (some g)) (fun _ i _ => N - (intOf i).toNat)
  case atStart => exact ⟨0, [], rfl, Nat.zero_le _, rfl, RowI.nil _ _ _ _ _ _, rfl, HR.out, HG.out⟩
  case round =>
    obtain ⟨k, xs, rfl, hk, hxl, ho, hq, hr, hg⟩ := hrel
    clear HR HG
    have HO : Hid (RowI wr w.heap.size 45 7 OpenV.c (fun W x => OpenV.At W x) _ xs) := ho
    have HR : Hid (Rdr wr g b (rtk ropen k L E).2.1 (rtk ropen k L E).2.2) := hr
    have HG : Hid (w.grownBy wr (some g)) := hg
    have HQ : Hid (xs.map OpenV.q = (rtk ropen k L E).1) := hq
    have HL : Hid (xs.length = k) := hxl
    clear ho hr hg hq hxl
    by_cases hlt : k < N
    · have hi2 : (k : Int) < (N : Int) := by omega
      have HS : Hid (rtk ropen (k + 1) L E = ((rtk ropen k L E).1 ++ [(ropen (rtk ropen k L E).2.1 (rtk ropen k L E).2.2).1], (ropen (rtk ropen k L E).2.1 (rtk ropen k L E).2.2).2.1, (ropen (rtk ropen k L E).2.1 (rtk ropen k L E).2.2).2.2)) := rtk_succ ropen k L E
      have HC : Hid (Calls _ _ _ _ _) := ropen_read g b _ _ wr HR.out
      generalize rtk ropen k L E = S at *
      obtain ⟨S1, S2, S3⟩ := S
      go_wp2_with fail
      refine HC.out.mono ?_
      rintro e w2 ⟨v2, rfl, hv, h1, h2⟩
      obtain ⟨x, hvx, hxq, hsta⟩ := hv
      have HXQ : Hid (x.q = (ropen S2 S3).1) := hxq
      have HSTA : Hid (StaI wr.heap.size w2.heap.size w2 fun W => OpenV.At W x) := hsta
      have HR2 : Hid (Rdr w2 g b (ropen S2 S3).2.1 (ropen S2 S3).2.2) := h1
      have HO2 : Hid (RowI w2 w.heap.size 45 7 OpenV.c (fun W x => OpenV.At W x) _ xs) := HO.out.grown h2 HGB.out.1
      have HAP : Hid (∀ j, Value.ownBlock _ = some j → j < wr.heap.size ∨ w2.heap.size ≤ j) := fun j hj => .inl (HO.out.own.lt j hj).2
      have HWS : Hid (w.heap.size ≤ wr.heap.size) := HG.out.size
      have HG2 : Hid (w.grownBy w2 (some g)) := grownBy_trans HG.out h2
      clear hxq hsta h1 h2 HC HO HR HG
      generalize (ropen S2 S3).1 = X at *
      generalize (ropen S2 S3).2.1 = L2 at *
      generalize (ropen S2 S3).2.2 = E2 at *
      have hvx2 : v2 = .agg #[.int .u64 x.num, .int .i64 x.node, .int .u64 x.last, .int .u64 x.first, .int .i64 x.count, .bool x.ready, .slice x.ra x.rn x.rc] := hvx
      subst hvx2
      clear hvx
      have HSZ : Hid (w.heap.size ≤ w2.heap.size) := HG2.out.size
      go_wp2_with (at_builtin; refine wpList_pushN w2 rfl _ _ 28 45 (.agg #[.int .u64 0, .int .i64 0, .int .u64 0, .int .u64 0, .int .i64 0, .bool false, .slice none 0 0]) 7 72 Tryz.underlying28 infoOpenV rfl (by decide) rfl w.heap.size _ OpenV.c xs x _ rfl OpenV_len (OpenV_one x) HO2.out.own rfl rfl (by have := HL.out; omega) (by decide) HSZ.out ?_)
      intro a3 n3 c3 w3 hn3 ho hg hat
      have HO3 : Hid (RowI w3 w.heap.size 45 7 OpenV.c (fun W x => OpenV.At W x) (.slice a3 n3 c3) (xs ++ [x])) := HO2.out.push HSTA.out HWS.out (Nat.le_refl _) HAP.out ho hg hat
      have HR3 : Hid (Rdr w3 g b L2 E2) := rdr_push HR2.out hg (fun j hj => by have h1 := (HO2.out.own.lt j hj).1; have h2 := HGB.out; omega)
      have HG3 : Hid (w.grownBy w3 (some g)) := grown_push HG2.out hg (fun j hj => (HO2.out.own.lt j hj).1)
      have HQ3 : Hid ((xs ++ [x]).map OpenV.q = S1 ++ [X]) := by
        have h1 := HQ.out
        show _ = _
        rw [List.map_append, h1, List.map_singleton, HXQ.out]
      have HL3 : Hid ((xs ++ [x]).length = k + 1) := by show _ = _; rw [List.length_append, HL.out]; rfl
      clear hn3 ho hg hat HO2 HR2 HG2 HSTA HAP HWS
      generalize xs ++ [x] = ys at *
      go_wp2
      go_roundw
      case rel => exact ⟨k + 1, ys, by go_num, by omega, HL3.out, HO3.out, by rw [HS.out]; exact HQ3.out, by rw [HS.out]; exact HR3.out, HG3.out⟩
      case measure => simp [intOf]; omega
    · have hkn : k = N := by omega
      subst hkn
      clear hlt hk
      have hrow := rows_of_own OpenV_len HO.out.own
      obtain ⟨n4, a4, c4, hv4⟩ := hrow.any
      subst hv4
      clear hrow
      go_wp2
      go_ret
      exact ⟨_, rfl, ⟨xs, HQ.out, ⟨_, _, _, rfl⟩, HO.out.sta OpenV_len⟩, HR.out, HG.out⟩

theorem DoneV_len (x : DoneV) : (DoneV.c x).length = 3 := rfl
theorem DoneV_one (x : DoneV) : ∀ u ∈ DoneV.c x, u.oneCell' = true := by
  intro u hu
  simp only [DoneV.c, List.mem_cons, List.not_mem_nil, or_false] at hu
  rcases hu with rfl | rfl | rfl <;> rfl
theorem infoDoneV : (Tryz.prog.info? 51).map (fun i => (i.zero, i.size, i.bytes)) = some (some (.agg #[.int .u64 0, .int .i64 0, .slice none 0 0]), 3, 40) := by kernel_rfl
set_option maxRecDepth 100000 in
set_option maxHeartbeats 4000000 in
theorem readAllD (most : Nat) (hm : most ≤ 1000) (g b : Nat) (l : List UInt8) (err : Nat) (w : World) (h : Rdr w g b l err) :
    Calls Tryz.prog 87 #[.pointer (some ⟨g, 0, none⟩), .int .u64 (most : Int), .func (.func 88) #[] #[]] w (ReadP (rall rdone most) g b l err (vRows 3 DoneV.c (fun W x => DoneV.At W x) DoneV.q) w) := by
  have HC : Hid (Calls _ _ _ _ _) := num_any g b l err most w h
  have hle : (rnum l err most).1 ≤ most := rnum_le _ _ _
  have HGB : Hid (g < w.heap.size ∧ b < w.heap.size) := ⟨h.lt, h.2.1⟩
  have HP : Hid (ReadP (rall rdone most) g b l err (vRows 3 DoneV.c (fun W x => DoneV.At W x) DoneV.q) w = ReadP (fun _ _ => rtk rdone (rnum l err most).1 (rnum l err most).2.1 (rnum l err most).2.2) g b l err (vRows 3 DoneV.c (fun W x => DoneV.At W x) DoneV.q) w) := rfl
  rw [HP.out]
  clear h HP
  generalize rnum l err most = R at *
  obtain ⟨N, L, E⟩ := R
  simp only at hle
  have hN : N ≤ 1000 := by omega
  clear hle hm
  go_enter Tryz.func87, Tryz.ntmps87
  go_wp2_with fail
  refine HC.out.mono ?_
  rintro e w1 ⟨rfl, h1, h2⟩
  have HR : Hid (Rdr w1 g b L E) := h1
  have HG : Hid (w.grownBy w1 (some g)) := h2
  clear h1 h2 HC
  go_wp2
  go_loopw [7, 11] (fun v i wr => ∃ (k : Nat) (xs : List DoneV), i = .int .u64 (k : Int) ∧ k ≤ N ∧ xs.length = k ∧ RowI wr w.heap.size 51 3 DoneV.c (fun W x => DoneV.At W x) v xs ∧ xs.map DoneV.q = (rtk rdone k L E).1 ∧ Rdr wr g b (rtk rdone k L E).2.1 (rtk rdone k L E).2.2 ∧ w.grownBy wr (some g)) (fun _ i _ => N - (intOf i).toNat)
  case atStart => exact ⟨0, [], rfl, Nat.zero_le _, rfl, RowI.nil _ _ _ _ _ _, rfl, HR.out, HG.out⟩
  case round =>
    obtain ⟨k, xs, rfl, hk, hxl, ho, hq, hr, hg⟩ := hrel
    clear HR HG
    have HO : Hid (RowI wr w.heap.size 51 3 DoneV.c (fun W x => DoneV.At W x) _ xs) := ho
    have HR : Hid (Rdr wr g b (rtk rdone k L E).2.1 (rtk rdone k L E).2.2) := hr
    have HG : Hid (w.grownBy wr (some g)) := hg
    have HQ : Hid (xs.map DoneV.q = (rtk rdone k L E).1) := hq
    have HL : Hid (xs.length = k) := hxl
    clear ho hr hg hq hxl
    by_cases hlt : k < N
    · have hi2 : (k : Int) < (N : Int) := by omega
      have HS : Hid (rtk rdone (k + 1) L E = ((rtk rdone k L E).1 ++ [(rdone (rtk rdone k L E).2.1 (rtk rdone k L E).2.2).1], (rdone (rtk rdone k L E).2.1 (rtk rdone k L E).2.2).2.1, (rdone (rtk rdone k L E).2.1 (rtk rdone k L E).2.2).2.2)) := rtk_succ rdone k L E
      have HC : Hid (Calls _ _ _ _ _) := rdone_read g b _ _ wr HR.out
      generalize rtk rdone k L E = S at *
      obtain ⟨S1, S2, S3⟩ := S
      go_wp2_with fail
      refine HC.out.mono ?_
      rintro e w2 ⟨v2, rfl, hv, h1, h2⟩
      obtain ⟨x, hvx, hxq, hsta⟩ := hv
      have HXQ : Hid (x.q = (rdone S2 S3).1) := hxq
      have HSTA : Hid (StaI wr.heap.size w2.heap.size w2 fun W => DoneV.At W x) := hsta
      have HR2 : Hid (Rdr w2 g b (rdone S2 S3).2.1 (rdone S2 S3).2.2) := h1
      have HO2 : Hid (RowI w2 w.heap.size 51 3 DoneV.c (fun W x => DoneV.At W x) _ xs) := HO.out.grown h2 HGB.out.1
      have HAP : Hid (∀ j, Value.ownBlock _ = some j → j < wr.heap.size ∨ w2.heap.size ≤ j) := fun j hj => .inl (HO.out.own.lt j hj).2
      have HWS : Hid (w.heap.size ≤ wr.heap.size) := HG.out.size
      have HG2 : Hid (w.grownBy w2 (some g)) := grownBy_trans HG.out h2
      clear hxq hsta h1 h2 HC HO HR HG
      generalize (rdone S2 S3).1 = X at *
      generalize (rdone S2 S3).2.1 = L2 at *
      generalize (rdone S2 S3).2.2 = E2 at *
      have hvx2 : v2 = .agg #[.int .u64 x.num, .int .i64 x.node, .slice x.na x.nn x.nc] := hvx
      subst hvx2
      clear hvx
      have HSZ : Hid (w.heap.size ≤ w2.heap.size) := HG2.out.size
      go_wp2_with (at_builtin; refine wpList_pushN w2 rfl _ _ 29 51 (.agg #[.int .u64 0, .int .i64 0, .slice none 0 0]) 3 40 Tryz.underlying29 infoDoneV rfl (by decide) rfl w.heap.size _ DoneV.c xs x _ rfl DoneV_len (DoneV_one x) HO2.out.own rfl rfl (by have := HL.out; omega) (by decide) HSZ.out ?_)
      intro a3 n3 c3 w3 hn3 ho hg hat
      have HO3 : Hid (RowI w3 w.heap.size 51 3 DoneV.c (fun W x => DoneV.At W x) (.slice a3 n3 c3) (xs ++ [x])) := HO2.out.push HSTA.out HWS.out (Nat.le_refl _) HAP.out ho hg hat
      have HR3 : Hid (Rdr w3 g b L2 E2) := rdr_push HR2.out hg (fun j hj => by have h1 := (HO2.out.own.lt j hj).1; have h2 := HGB.out; omega)
      have HG3 : Hid (w.grownBy w3 (some g)) := grown_push HG2.out hg (fun j hj => (HO2.out.own.lt j hj).1)
      have HQ3 : Hid ((xs ++ [x]).map DoneV.q = S1 ++ [X]) := by
        have h1 := HQ.out
        show _ = _
        rw [List.map_append, h1, List.map_singleton, HXQ.out]
      have HL3 : Hid ((xs ++ [x]).length = k + 1) := by show _ = _; rw [List.length_append, HL.out]; rfl
      clear hn3 ho hg hat HO2 HR2 HG2 HSTA HAP HWS
      generalize xs ++ [x] = ys at *
      go_wp2
      go_roundw
      case rel => exact ⟨k + 1, ys, by go_num, by omega, HL3.out, HO3.out, by rw [HS.out]; exact HQ3.out, by rw [HS.out]; exact HR3.out, HG3.out⟩
      case measure => simp [intOf]; omega
    · have hkn : k = N := by omega
      subst hkn
      clear hlt hk
      have hrow := rows_of_own DoneV_len HO.out.own
      obtain ⟨n4, a4, c4, hv4⟩ := hrow.any
      subst hv4
      clear hrow
      go_wp2
      go_ret
      exact ⟨_, rfl, ⟨xs, HQ.out, ⟨_, _, _, rfl⟩, HO.out.sta DoneV_len⟩, HR.out, HG.out⟩

theorem ChgV_len (x : ChgV) : (ChgV.c x).length = 9 := rfl
theorem ChgV_one (x : ChgV) : ∀ u ∈ ChgV.c x, u.oneCell' = true := by
  intro u hu
  simp only [ChgV.c, List.mem_cons, List.not_mem_nil, or_false] at hu
  rcases hu with rfl | rfl | rfl | rfl | rfl | rfl | rfl | rfl | rfl <;> rfl
theorem infoChgV : (Tryz.prog.info? 49).map (fun i => (i.zero, i.size, i.bytes)) = some (some (.agg #[.int .i64 0, .int .i64 0, .slice none 0 0, .slice none 0 0, .slice none 0 0, .int .i64 0, .int .i64 0, .int .i64 0, .int .i64 0]), 9, 120) := by kernel_rfl
set_option maxRecDepth 100000 in
set_option maxHeartbeats 4000000 in
theorem readAllC (most : Nat) (hm : most ≤ 1000) (g b : Nat) (l : List UInt8) (err : Nat) (w : World) (h : Rdr w g b l err) :
    Calls Tryz.prog 102 #[.pointer (some ⟨g, 0, none⟩), .int .u64 (most : Int), .func (.func 103) #[] #[]] w (ReadP (rall rchg most) g b l err (vRows 9 ChgV.c (fun W x => ChgV.At W x) ChgV.q) w) := by
  have HC : Hid (Calls _ _ _ _ _) := num_any g b l err most w h
  have hle : (rnum l err most).1 ≤ most := rnum_le _ _ _
  have HGB : Hid (g < w.heap.size ∧ b < w.heap.size) := ⟨h.lt, h.2.1⟩
  have HP : Hid (ReadP (rall rchg most) g b l err (vRows 9 ChgV.c (fun W x => ChgV.At W x) ChgV.q) w = ReadP (fun _ _ => rtk rchg (rnum l err most).1 (rnum l err most).2.1 (rnum l err most).2.2) g b l err (vRows 9 ChgV.c (fun W x => ChgV.At W x) ChgV.q) w) := rfl
  rw [HP.out]
  clear h HP
  generalize rnum l err most = R at *
  obtain ⟨N, L, E⟩ := R
  simp only at hle
  have hN : N ≤ 1000 := by omega
  clear hle hm
  go_enter Tryz.func102, Tryz.ntmps102
  go_wp2_with fail
  refine HC.out.mono ?_
  rintro e w1 ⟨rfl, h1, h2⟩
  have HR : Hid (Rdr w1 g b L E) := h1
  have HG : Hid (w.grownBy w1 (some g)) := h2
  clear h1 h2 HC
  go_wp2
  go_loopw [7, 11] (fun v i wr => ∃ (k : Nat) (xs : List ChgV), i = .int .u64 (k : Int) ∧ k ≤ N ∧ xs.length = k ∧ RowI wr w.heap.size 49 9 ChgV.c (fun W x => ChgV.At W x) v xs ∧ xs.map ChgV.q = (rtk rchg k L E).1 ∧ Rdr wr g b (rtk rchg k L E).2.1 (rtk rchg k L E).2.2 ∧ w.grownBy wr (some g)) (fun _ i _ => N - (intOf i).toNat)
  case atStart => exact ⟨0, [], rfl, Nat.zero_le _, rfl, RowI.nil _ _ _ _ _ _, rfl, HR.out, HG.out⟩
  case round =>
    obtain ⟨k, xs, rfl, hk, hxl, ho, hq, hr, hg⟩ := hrel
    clear HR HG
    have HO : Hid (RowI wr w.heap.size 49 9 ChgV.c (fun W x => ChgV.At W x) _ xs) := ho
    have HR : Hid (Rdr wr g b (rtk rchg k L E).2.1 (rtk rchg k L E).2.2) := hr
    have HG : Hid (w.grownBy wr (some g)) := hg
    have HQ : Hid (xs.map ChgV.q = (rtk rchg k L E).1) := hq
    have HL : Hid (xs.length = k) := hxl
    clear ho hr hg hq hxl
    by_cases hlt : k < N
    · have hi2 : (k : Int) < (N : Int) := by omega
      have HS : Hid (rtk rchg (k + 1) L E = ((rtk rchg k L E).1 ++ [(rchg (rtk rchg k L E).2.1 (rtk rchg k L E).2.2).1], (rchg (rtk rchg k L E).2.1 (rtk rchg k L E).2.2).2.1, (rchg (rtk rchg k L E).2.1 (rtk rchg k L E).2.2).2.2)) := rtk_succ rchg k L E
      have HC : Hid (Calls _ _ _ _ _) := rchg_read g b _ _ wr HR.out
      generalize rtk rchg k L E = S at *
      obtain ⟨S1, S2, S3⟩ := S
      go_wp2_with fail
      refine HC.out.mono ?_
      rintro e w2 ⟨v2, rfl, hv, h1, h2⟩
      obtain ⟨x, hvx, hxq, hsta⟩ := hv
      have HXQ : Hid (x.q = (rchg S2 S3).1) := hxq
      have HSTA : Hid (StaI wr.heap.size w2.heap.size w2 fun W => ChgV.At W x) := hsta
      have HR2 : Hid (Rdr w2 g b (rchg S2 S3).2.1 (rchg S2 S3).2.2) := h1
      have HO2 : Hid (RowI w2 w.heap.size 49 9 ChgV.c (fun W x => ChgV.At W x) _ xs) := HO.out.grown h2 HGB.out.1
      have HAP : Hid (∀ j, Value.ownBlock _ = some j → j < wr.heap.size ∨ w2.heap.size ≤ j) := fun j hj => .inl (HO.out.own.lt j hj).2
      have HWS : Hid (w.heap.size ≤ wr.heap.size) := HG.out.size
      have HG2 : Hid (w.grownBy w2 (some g)) := grownBy_trans HG.out h2
      clear hxq hsta h1 h2 HC HO HR HG
      generalize (rchg S2 S3).1 = X at *
      generalize (rchg S2 S3).2.1 = L2 at *
      generalize (rchg S2 S3).2.2 = E2 at *
      have hvx2 : v2 = .agg #[.int .i64 x.n, .int .i64 x.p.kind, .slice x.ka x.kn x.kc, .slice x.va x.vn x.vc, .slice x.da x.dn x.dc, .int .i64 x.p.root, .int .i64 x.p.next, .int .i64 x.p.size, .int .i64 x.p.idle] := hvx
      subst hvx2
      clear hvx
      have HSZ : Hid (w.heap.size ≤ w2.heap.size) := HG2.out.size
      go_wp2_with (at_builtin; refine wpList_pushN w2 rfl _ _ 27 49 (.agg #[.int .i64 0, .int .i64 0, .slice none 0 0, .slice none 0 0, .slice none 0 0, .int .i64 0, .int .i64 0, .int .i64 0, .int .i64 0]) 9 120 Tryz.underlying27 infoChgV rfl (by decide) rfl w.heap.size _ ChgV.c xs x _ rfl ChgV_len (ChgV_one x) HO2.out.own rfl rfl (by have := HL.out; omega) (by decide) HSZ.out ?_)
      intro a3 n3 c3 w3 hn3 ho hg hat
      have HO3 : Hid (RowI w3 w.heap.size 49 9 ChgV.c (fun W x => ChgV.At W x) (.slice a3 n3 c3) (xs ++ [x])) := HO2.out.push HSTA.out HWS.out (Nat.le_refl _) HAP.out ho hg hat
      have HR3 : Hid (Rdr w3 g b L2 E2) := rdr_push HR2.out hg (fun j hj => by have h1 := (HO2.out.own.lt j hj).1; have h2 := HGB.out; omega)
      have HG3 : Hid (w.grownBy w3 (some g)) := grown_push HG2.out hg (fun j hj => (HO2.out.own.lt j hj).1)
      have HQ3 : Hid ((xs ++ [x]).map ChgV.q = S1 ++ [X]) := by
        have h1 := HQ.out
        show _ = _
        rw [List.map_append, h1, List.map_singleton, HXQ.out]
      have HL3 : Hid ((xs ++ [x]).length = k + 1) := by show _ = _; rw [List.length_append, HL.out]; rfl
      clear hn3 ho hg hat HO2 HR2 HG2 HSTA HAP HWS
      generalize xs ++ [x] = ys at *
      go_wp2
      go_roundw
      case rel => exact ⟨k + 1, ys, by go_num, by omega, HL3.out, HO3.out, by rw [HS.out]; exact HQ3.out, by rw [HS.out]; exact HR3.out, HG3.out⟩
      case measure => simp [intOf]; omega
    · have hkn : k = N := by omega
      subst hkn
      clear hlt hk
      have hrow := rows_of_own ChgV_len HO.out.own
      obtain ⟨n4, a4, c4, hv4⟩ := hrow.any
      subst hv4
      clear hrow
      go_wp2
      go_ret
      exact ⟨_, rfl, ⟨xs, HQ.out, ⟨_, _, _, rfl⟩, HO.out.sta ChgV_len⟩, HR.out, HG.out⟩
end Go.Proofs.YtbgofajldkblmaaGreat
/- rec: readTurn and read. Own lemmas, no statement. -/
set_option linter.unusedSimpArgs false
set_option linter.unusedVariables false
namespace Go.Proofs.YtbgofajldkblmaaGreat
open Go.ChangeShapes Go.WideShapes Go.ChangeAt Go.RowKit

/-- Only the Reader's block and one more have turned. -/
def Two (g p : Nat) (w w' : World) : Prop := Chg (fun i => i = g ∨ i = p) w w'
theorem Two.grown {g p : Nat} {a w w' : World} (h : Two g p a w) (hg : w.grownBy w' (some g)) : Two g p a w' := Chg.grown h hg (fun k e _ => by cases e; exact .inl rfl)
theorem Two.set {g p : Nat} {a w : World} (h : Two g p a w) (i : Nat) (u : Value) : Two g p a (w.setCell ⟨p, i, none⟩ u) := Chg.setCell h _ (fun _ => .inr rfl) u
theorem Two.refl (g p : Nat) (w : World) : Two g p w w := Chg.refl _ _
theorem Two.trans {g p : Nat} {a b c : World} (h : Two g p a b) (k : Two g p b c) : Two g p a c := Chg.trans h k (fun _ _ e => e)
theorem StaI.two {g p lo hi : Nat} {W W' : World} {Q : World → Prop} (h : StaI lo hi W Q) (hhi : hi ≤ W.heap.size) (ht : Two g p W W') (h1 : g < lo) (h2 : p < lo) : StaI lo hi W' Q :=
  h.move fun i a b => ht.block i (by omega) (by omega)
theorem Blk.gr {p g : Nat} {c : Array Value} {T : TypeId} {W W' : World} (h : Blk W p c T) (hg : W.grownBy W' (some g)) (hn : p ≠ g) : Blk W' p c T := h.of (hg.block _ h.lt (fun e => hn (by cases e; rfl)))
theorem Rdr.set {W : World} {g b p : Nat} {l : List UInt8} {err : Nat} (h : Rdr W g b l err) (h1 : g ≠ p) (h2 : b ≠ p) (i : Nat) (u : Value) : Rdr (W.setCell ⟨p, i, none⟩ u) g b l err :=
  h.kept (by simp) (Below.heap_setCell _ _ _ _ (by exact h1)) (Below.heap_setCell _ _ _ _ (by exact h2))

set_option maxRecDepth 100000 in
set_option maxHeartbeats 4000000 in
theorem rturn_read (p g b : Nat) (l : List UInt8) (err : Nat) (c : Array Value) (w : World) (hc : c.size = 12) (h : Rdr w g b l err) (hb : Blk w p c 31) (hpg : p ≠ g) (hpb : p ≠ b) (c6 : c[6]? = some (.int .u64 0)) (c9 : c[9]? = some (.slice none 0 0)) :
    Calls Tryz.prog 82 #[.pointer (some ⟨p, 0, none⟩), .pointer (some ⟨g, 0, none⟩)] w fun e w' => e = .returned (.tuple #[]) ∧ ∃ (xs : List ChgV) (a : Option Addr) (n m : Nat), xs.map ChgV.q = (rturn l err).1.2 ∧ StaI w.heap.size w'.heap.size w' (fun W => RowsN W 9 ChgV.c (.slice a n m) xs ∧ ∀ x ∈ xs, x.At W) ∧ Blk w' p ((c.setIfInBounds 6 (.int .u64 (rturn l err).1.1)).setIfInBounds 9 (.slice a n m)) 31 ∧ Two g p w w' := by
  obtain ⟨N, hN⟩ : ∃ x, x = rint 4611686018427387904 l err := ⟨_, rfl⟩
  obtain ⟨S, hS⟩ : ∃ x, x = rall rchg 30 N.2.1 N.2.2 := ⟨_, rfl⟩
  have HP : rturn l err = ((N.1, S.1), S.2.1, S.2.2) := by subst hS hN; rfl
  have HCN : Hid (∀ W, Rdr W g b l err → Calls Tryz.prog 34 #[.pointer (some ⟨g, 0, none⟩), .int .u64 4611686018427387904] W fun e w' => ∃ v, e = .returned v ∧ vU64 W.heap.size w' v N.1 ∧ Rdr w' g b N.2.1 N.2.2 ∧ W.grownBy w' (some g)) := fun W hW => by subst hN; exact rint_read 4611686018427387904 g b _ _ W hW
  have HCS : Hid (∀ W, Rdr W g b N.2.1 N.2.2 → Calls Tryz.prog 102 #[.pointer (some ⟨g, 0, none⟩), .int .u64 30, .func (.func 103) #[] #[]] W fun e w' => ∃ v, e = .returned v ∧ vRows 9 ChgV.c (fun W x => ChgV.At W x) ChgV.q W.heap.size w' v S.1 ∧ Rdr w' g b S.2.1 S.2.2 ∧ W.grownBy w' (some g)) := fun W hW => by subst hS; exact readAllC 30 (by omega) g b _ _ W hW
  rw [HP]
  clear HP hS hN
  obtain ⟨Nv, Nl, Ne⟩ := N
  obtain ⟨Sv, Sl, Se⟩ := S
  have HR : Hid (Rdr w g b l err) := h
  have HB : Hid (Blk w p c 31) := hb
  have HD : Hid (p ≠ g ∧ p ≠ b ∧ g < w.heap.size ∧ p < w.heap.size) := ⟨hpg, hpb, h.lt, hb.lt⟩
  have C6 : Hid (c[6]? = some (.int .u64 0)) := c6
  have C9 : Hid (c[9]? = some (.slice none 0 0)) := c9
  have HC12 : Hid (c.size = 12) := hc
  clear h hb hpg hpb c6 c9 hc
  go_enter Tryz.func82, Tryz.ntmps82
  have HCC : Hid (Calls _ _ _ _ _) := HCN.out w HR.out
  go_wp2_with fail
  refine HCC.out.mono ?_
  rintro e w1 ⟨v0, rfl, hv0, h1, h2⟩
  have hv0' : v0 = .int .u64 Nv := hv0
  subst hv0'
  have HR1 : Hid (Rdr w1 g b Nl Ne) := h1
  have HB1 : Hid (Blk w1 p c 31) := HB.out.gr h2 HD.out.1
  have HT1 : Hid (Two g p w w1) := (Two.refl _ _ _).grown h2
  clear hv0 h1 h2 HCC HR HB
  have HCC : Hid (Calls _ _ _ _ _) := HCS.out w1 HR1.out
  go_wp2_with fail
  refine HCC.out.mono ?_
  rintro e w2 ⟨v1, rfl, hv1, h1, h2⟩
  obtain ⟨xs, hxs, ⟨n, a, m, rfl⟩, hsta⟩ := hv1
  have HXS : Hid (xs.map ChgV.q = Sv) := hxs
  have HB2 : Hid (Blk w2 p c 31) := HB1.out.gr h2 HD.out.1
  have HT2 : Hid (Two g p w w2) := HT1.out.grown h2
  have HS2 : Hid (StaI w1.heap.size w2.heap.size w2 fun W => RowsN W 9 ChgV.c (.slice a n m) xs ∧ ∀ x ∈ xs, x.At W) := hsta
  have HLO : Hid (p < w1.heap.size) := HB1.out.lt
  have HWS : Hid (w.heap.size ≤ w1.heap.size) := HT1.out.size
  clear hxs hsta h1 h2 HCC HR1 HB1 HT1
  have z6 : w2.cell? ⟨p, 6, none⟩ = some (.int .u64 0) := (HB2.out.cell 6).trans C6.out
  have z9 : w2.cell? ⟨p, 9, none⟩ = some (.slice none 0 0) := (HB2.out.cell 9).trans C9.out
  have f6 := HB2.out.frozen 6
  have f9 := HB2.out.frozen 9
  have HF : Hid (StaI w.heap.size ((w2.setCell ⟨p, 6, none⟩ (.int .u64 Nv)).setCell ⟨p, 9, none⟩ (.slice a n m)).heap.size ((w2.setCell ⟨p, 6, none⟩ (.int .u64 Nv)).setCell ⟨p, 9, none⟩ (.slice a n m)) fun W => RowsN W 9 ChgV.c (.slice a n m) xs ∧ ∀ x ∈ xs, x.At W) := ((HS2.out.setCell HLO.out _).setCell HLO.out _).wide HWS.out (by simp)
  have HBF : Hid (Blk ((w2.setCell ⟨p, 6, none⟩ (.int .u64 Nv)).setCell ⟨p, 9, none⟩ (.slice a n m)) p ((c.setIfInBounds 6 (.int .u64 Nv)).setIfInBounds 9 (.slice a n m)) 31) := (HB2.out.set 6 _).set 9 _
  have HTF : Hid (Two g p w ((w2.setCell ⟨p, 6, none⟩ (.int .u64 Nv)).setCell ⟨p, 9, none⟩ (.slice a n m))) := (HT2.out.set 6 _).set 9 _
  go_wp2
  go_end0
  exact ⟨rfl, xs, a, n, m, HXS.out, HF.out, HBF.out, HTF.out⟩

/-- What read leaves. -/
def ReadPost (p g : Nat) (w : World) (q : RecQ) (e : Ending) (w' : World) : Prop := e = .returned (.tuple #[]) ∧ ∃ x : RecV, x.q = q ∧ StaI w.heap.size w'.heap.size w' (fun W => x.At W) ∧ Blk w' p #[.int .i64 x.kind, .int .u64 x.num, .int .i64 x.node, .string x.key, .bool x.was, .string x.old, .int .u64 x.prev, .slice x.na x.nn x.nc, .slice x.ra x.rn x.rc, .slice x.ga x.gn x.gc, .slice x.oa x.om x.oc, .slice x.da x.dn x.dc] 31 ∧ Two g p w w'
theorem empty_max : ByteArray.empty.size ≤ maxLen := Nat.zero_le _

set_option maxRecDepth 100000 in
set_option maxHeartbeats 4000000 in
theorem read3 (p g b : Nat) (l : List UInt8) (err : Nat) (tx ty : Int) (w : World) (h : Rdr w g b l err) (hb : Blk w p #[.int .i64 3, .int .u64 tx, .int .i64 ty, .string ⟨#[]⟩, .bool false, .string ⟨#[]⟩, .int .u64 0, .slice none 0 0, .slice none 0 0, .slice none 0 0, .slice none 0 0, .slice none 0 0] 31) (hpg : p ≠ g) (hpb : p ≠ b) :
    Calls Tryz.prog 36 #[.pointer (some ⟨p, 0, none⟩), .pointer (some ⟨g, 0, none⟩)] w (ReadPost p g w (rbody 3 (tx, ty) l err).1) := by
  have HP : Hid ((rbody 3 (tx, ty) l err).1 = ⟨3, tx, ty, .empty, false, .empty, 0, [], (rreads l err).1, [], [], []⟩) := rfl
  have HCC : Hid (Calls Tryz.prog 83 #[.pointer (some ⟨g, 0, none⟩)] w (ReadP (fun _ _ => rreads l err) g b l err vStrs w)) := rreads_read g b l err w h
  have HSZ : Hid (∀ s ∈ (rreads l err).1, s.size ≤ maxLen) := fun s hs => Nat.le_trans (rreads_size _ _ s hs) (by decide)
  rw [HP.out]
  clear HP
  generalize rreads l err = S at *
  obtain ⟨S1, S2, S3⟩ := S
  have HR : Hid (Rdr w g b l err) := h
  have HB : Hid (Blk w p #[.int .i64 3, .int .u64 tx, .int .i64 ty, .string ⟨#[]⟩, .bool false, .string ⟨#[]⟩, .int .u64 0, .slice none 0 0, .slice none 0 0, .slice none 0 0, .slice none 0 0, .slice none 0 0] 31) := hb
  have HD : Hid (p ≠ g ∧ p ≠ b ∧ g < w.heap.size ∧ p < w.heap.size) := ⟨hpg, hpb, h.lt, hb.lt⟩
  clear h hb hpg hpb
  have z0 : w.cell? ⟨p, 0, none⟩ = some (.int .i64 3) := HB.out.cell 0
  go_enter Tryz.func36, Tryz.ntmps36
  go_wp2_with fail
  refine HCC.out.mono ?_
  rintro e w1 ⟨v1, rfl, ⟨n, a, m, rfl, hs⟩, h1, h2⟩
  have HB1 : Hid (Blk w1 p #[.int .i64 3, .int .u64 tx, .int .i64 ty, .string ⟨#[]⟩, .bool false, .string ⟨#[]⟩, .int .u64 0, .slice none 0 0, .slice none 0 0, .slice none 0 0, .slice none 0 0, .slice none 0 0] 31) := HB.out.gr h2 HD.out.1
  have HT1 : Hid (Two g p w w1) := (Two.refl _ _ _).grown h2
  have HS1 : Hid (StaI w.heap.size w1.heap.size w1 fun W => Rd W (.slice a n m) (sv S1)) := hs
  clear hs h1 h2 HCC HB HR z0
  have z8 : w1.cell? ⟨p, 8, none⟩ = some (.slice none 0 0) := HB1.out.cell 8
  have f8 := HB1.out.frozen 8
  have HF : Hid (StaI w.heap.size (w1.setCell ⟨p, 8, none⟩ (.slice a n m)).heap.size (w1.setCell ⟨p, 8, none⟩ (.slice a n m)) fun W => (Rd W (.slice a n m) (sv S1)) ∧ ∀ s ∈ S1, s.size ≤ maxLen) := ((HS1.out.setCell HD.out.2.2.2 _).and (StaI.all HSZ.out)).wide (Nat.le_refl _) (by simp)
  have HBF : Hid (Blk (w1.setCell ⟨p, 8, none⟩ (.slice a n m)) p #[.int .i64 3, .int .u64 tx, .int .i64 ty, .string ⟨#[]⟩, .bool false, .string ⟨#[]⟩, .int .u64 0, .slice none 0 0, .slice a n m, .slice none 0 0, .slice none 0 0, .slice none 0 0] 31) := by show Blk _ _ _ _; have := HB1.out.set 8 (.slice a n m); simpa using this
  have HTF : Hid (Two g p w (w1.setCell ⟨p, 8, none⟩ (.slice a n m))) := HT1.out.set 8 _
  clear HSZ
  go_wp2
  go_end0
  exact ⟨rfl, RecV.mk (3 : Int) tx ty .empty false .empty 0 none 0 0 [] a n m S1 none 0 0 [] none 0 0 [] none 0 0 [], rfl, (HF.out.mono fun W hW => ⟨empty_max, empty_max, Rd.nil _, hW.1, hW.2, RowsN.nil _ _ _, fun _ h => (by cases h), RowsN.nil _ _ _, fun _ h => (by cases h), RowsN.nil _ _ _, fun _ h => (by cases h)⟩), HBF.out, HTF.out⟩

set_option maxRecDepth 100000 in
set_option maxHeartbeats 4000000 in
theorem read6 (p g b : Nat) (l : List UInt8) (err : Nat) (tx ty : Int) (w : World) (h : Rdr w g b l err) (hb : Blk w p #[.int .i64 6, .int .u64 tx, .int .i64 ty, .string ⟨#[]⟩, .bool false, .string ⟨#[]⟩, .int .u64 0, .slice none 0 0, .slice none 0 0, .slice none 0 0, .slice none 0 0, .slice none 0 0] 31) (hpg : p ≠ g) (hpb : p ≠ b) :
    Calls Tryz.prog 36 #[.pointer (some ⟨p, 0, none⟩), .pointer (some ⟨g, 0, none⟩)] w (ReadPost p g w (rbody 6 (tx, ty) l err).1) := by
  have HP : Hid ((rbody 6 (tx, ty) l err).1 = ⟨6, tx, ty, .empty, false, .empty, 0, (rnodes l err).1, [], [], [], []⟩) := rfl
  have HCC : Hid (Calls Tryz.prog 84 #[.pointer (some ⟨g, 0, none⟩)] w (ReadP (fun _ _ => rnodes l err) g b l err vInts w)) := rnodes_read g b l err w h
  have HSZ : Hid (True) := trivial
  rw [HP.out]
  clear HP
  generalize rnodes l err = S at *
  obtain ⟨S1, S2, S3⟩ := S
  have HR : Hid (Rdr w g b l err) := h
  have HB : Hid (Blk w p #[.int .i64 6, .int .u64 tx, .int .i64 ty, .string ⟨#[]⟩, .bool false, .string ⟨#[]⟩, .int .u64 0, .slice none 0 0, .slice none 0 0, .slice none 0 0, .slice none 0 0, .slice none 0 0] 31) := hb
  have HD : Hid (p ≠ g ∧ p ≠ b ∧ g < w.heap.size ∧ p < w.heap.size) := ⟨hpg, hpb, h.lt, hb.lt⟩
  clear h hb hpg hpb
  have z0 : w.cell? ⟨p, 0, none⟩ = some (.int .i64 6) := HB.out.cell 0
  go_enter Tryz.func36, Tryz.ntmps36
  go_wp2_with fail
  refine HCC.out.mono ?_
  rintro e w1 ⟨v1, rfl, ⟨n, a, m, rfl, hs⟩, h1, h2⟩
  have HB1 : Hid (Blk w1 p #[.int .i64 6, .int .u64 tx, .int .i64 ty, .string ⟨#[]⟩, .bool false, .string ⟨#[]⟩, .int .u64 0, .slice none 0 0, .slice none 0 0, .slice none 0 0, .slice none 0 0, .slice none 0 0] 31) := HB.out.gr h2 HD.out.1
  have HT1 : Hid (Two g p w w1) := (Two.refl _ _ _).grown h2
  have HS1 : Hid (StaI w.heap.size w1.heap.size w1 fun W => Rd W (.slice a n m) (iv S1)) := hs
  clear hs h1 h2 HCC HB HR z0
  have z8 : w1.cell? ⟨p, 7, none⟩ = some (.slice none 0 0) := HB1.out.cell 7
  have f8 := HB1.out.frozen 7
  have HF : Hid (StaI w.heap.size (w1.setCell ⟨p, 7, none⟩ (.slice a n m)).heap.size (w1.setCell ⟨p, 7, none⟩ (.slice a n m)) fun W => (Rd W (.slice a n m) (iv S1)) ∧ True) := ((HS1.out.setCell HD.out.2.2.2 _).and (StaI.all HSZ.out)).wide (Nat.le_refl _) (by simp)
  have HBF : Hid (Blk (w1.setCell ⟨p, 7, none⟩ (.slice a n m)) p #[.int .i64 6, .int .u64 tx, .int .i64 ty, .string ⟨#[]⟩, .bool false, .string ⟨#[]⟩, .int .u64 0, .slice a n m, .slice none 0 0, .slice none 0 0, .slice none 0 0, .slice none 0 0] 31) := by show Blk _ _ _ _; have := HB1.out.set 7 (.slice a n m); simpa using this
  have HTF : Hid (Two g p w (w1.setCell ⟨p, 7, none⟩ (.slice a n m))) := HT1.out.set 7 _
  clear HSZ
  go_wp2
  go_end0
  exact ⟨rfl, RecV.mk (6 : Int) tx ty .empty false .empty 0 a n m S1 none 0 0 [] none 0 0 [] none 0 0 [] none 0 0 [], rfl, (HF.out.mono fun W hW => ⟨empty_max, empty_max, hW.1, Rd.nil _, fun _ h => (by cases h), RowsN.nil _ _ _, fun _ h => (by cases h), RowsN.nil _ _ _, fun _ h => (by cases h), RowsN.nil _ _ _, fun _ h => (by cases h)⟩), HBF.out, HTF.out⟩

set_option maxRecDepth 100000 in
set_option maxHeartbeats 4000000 in
theorem read0 (p g b : Nat) (l : List UInt8) (err : Nat) (K tx ty : Int) (w : World) (h : Rdr w g b l err) (hb : Blk w p #[.int .i64 K, .int .u64 tx, .int .i64 ty, .string ⟨#[]⟩, .bool false, .string ⟨#[]⟩, .int .u64 0, .slice none 0 0, .slice none 0 0, .slice none 0 0, .slice none 0 0, .slice none 0 0] 31) (hpg : p ≠ g) (hpb : p ≠ b) (hK : K = 0 ∨ K = 4 ∨ K = 5 ∨ K = 7) :
    Calls Tryz.prog 36 #[.pointer (some ⟨p, 0, none⟩), .pointer (some ⟨g, 0, none⟩)] w (ReadPost p g w (rbody K (tx, ty) l err).1) := by
  have HP : Hid ((rbody K (tx, ty) l err).1 = ⟨K, tx, ty, .empty, false, .empty, 0, [], [], [], [], []⟩) := by
    show _ = _
    unfold rbody
    rw [if_neg (by omega), if_neg (by omega), if_neg (by omega), if_neg (by omega), if_neg (by omega)]
    rfl
  rw [HP.out]
  clear HP
  have HR : Hid (Rdr w g b l err) := h
  have HB : Hid (Blk w p #[.int .i64 K, .int .u64 tx, .int .i64 ty, .string ⟨#[]⟩, .bool false, .string ⟨#[]⟩, .int .u64 0, .slice none 0 0, .slice none 0 0, .slice none 0 0, .slice none 0 0, .slice none 0 0] 31) := hb
  have HD : Hid (p ≠ g ∧ p ≠ b ∧ g < w.heap.size ∧ p < w.heap.size) := ⟨hpg, hpb, h.lt, hb.lt⟩
  clear h hb hpg hpb
  have z0 : w.cell? ⟨p, 0, none⟩ = some (.int .i64 K) := HB.out.cell 0
  have k1 : (K == 1) = false := beq_eq_false_iff_ne.2 (by omega)
  have k2 : (K == 2) = false := beq_eq_false_iff_ne.2 (by omega)
  have k3 : (K == 3) = false := beq_eq_false_iff_ne.2 (by omega)
  have k6 : (K == 6) = false := beq_eq_false_iff_ne.2 (by omega)
  have k8 : (K == 8) = false := beq_eq_false_iff_ne.2 (by omega)
  clear hK
  go_enter Tryz.func36, Tryz.ntmps36
  go_wp2
  go_end0
  exact ⟨rfl, RecV.mk K tx ty .empty false .empty 0 none 0 0 [] none 0 0 [] none 0 0 [] none 0 0 [] none 0 0 [], rfl, (fun _ _ => ⟨empty_max, empty_max, Rd.nil _, Rd.nil _, fun _ h => (by cases h), RowsN.nil _ _ _, fun _ h => (by cases h), RowsN.nil _ _ _, fun _ h => (by cases h), RowsN.nil _ _ _, fun _ h => (by cases h)⟩), HB.out, Two.refl _ _ _⟩

set_option maxRecDepth 100000 in
set_option maxHeartbeats 4000000 in
theorem read2 (p g b : Nat) (l : List UInt8) (err : Nat) (tx ty : Int) (w : World) (h : Rdr w g b l err) (hb : Blk w p #[.int .i64 2, .int .u64 tx, .int .i64 ty, .string ⟨#[]⟩, .bool false, .string ⟨#[]⟩, .int .u64 0, .slice none 0 0, .slice none 0 0, .slice none 0 0, .slice none 0 0, .slice none 0 0] 31) (hpg : p ≠ g) (hpb : p ≠ b) :
    Calls Tryz.prog 36 #[.pointer (some ⟨p, 0, none⟩), .pointer (some ⟨g, 0, none⟩)] w (ReadPost p g w (rbody 2 (tx, ty) l err).1) := by
  have HP : Hid ((rbody 2 (tx, ty) l err).1 = ⟨2, tx, ty, .empty, false, .empty, (rturn l err).1.1, [], [], (rturn l err).1.2, [], []⟩) := rfl
  have HCC : Hid (Calls _ _ _ _ _) := rturn_read p g b l err _ w rfl h hb hpg hpb rfl rfl
  rw [HP.out]
  clear HP
  generalize rturn l err = S at *
  obtain ⟨⟨S1, S2⟩, S3⟩ := S
  have HR : Hid (Rdr w g b l err) := h
  have HB : Hid (Blk w p #[.int .i64 2, .int .u64 tx, .int .i64 ty, .string ⟨#[]⟩, .bool false, .string ⟨#[]⟩, .int .u64 0, .slice none 0 0, .slice none 0 0, .slice none 0 0, .slice none 0 0, .slice none 0 0] 31) := hb
  have HD : Hid (p ≠ g ∧ p ≠ b ∧ g < w.heap.size ∧ p < w.heap.size) := ⟨hpg, hpb, h.lt, hb.lt⟩
  clear h hb hpg hpb
  have z0 : w.cell? ⟨p, 0, none⟩ = some (.int .i64 2) := HB.out.cell 0
  go_enter Tryz.func36, Tryz.ntmps36
  go_wp2_with fail
  refine HCC.out.mono ?_
  rintro e w1 ⟨rfl, xs, a, n, m, hq, hr, hbk, ht⟩
  have HXS : Hid (xs.map ChgV.q = S2) := hq
  have HF : Hid (StaI w.heap.size w1.heap.size w1 fun W => RowsN W 9 ChgV.c (.slice a n m) xs ∧ ∀ x ∈ xs, x.At W) := hr
  have HBF : Hid (Blk w1 p #[.int .i64 2, .int .u64 tx, .int .i64 ty, .string ⟨#[]⟩, .bool false, .string ⟨#[]⟩, .int .u64 S1, .slice none 0 0, .slice none 0 0, .slice a n m, .slice none 0 0, .slice none 0 0] 31) := by show Blk _ _ _ _; simpa using hbk
  have HTF : Hid (Two g p w w1) := ht
  clear hq hr hbk ht HCC HB HR z0
  go_wp2
  go_end0
  exact ⟨rfl, RecV.mk 2 tx ty .empty false .empty S1 none 0 0 [] none 0 0 [] a n m xs none 0 0 [] none 0 0 [], by show RecQ.mk _ _ _ _ _ _ _ _ _ _ _ _ = _; rw [HXS.out]; rfl, (HF.out.mono fun W hW => ⟨empty_max, empty_max, Rd.nil _, Rd.nil _, fun _ h => (by cases h), hW.1, hW.2, RowsN.nil _ _ _, fun _ h => (by cases h), RowsN.nil _ _ _, fun _ h => (by cases h)⟩), HBF.out, HTF.out⟩

set_option maxRecDepth 100000 in
set_option maxHeartbeats 4000000 in
theorem read1 (p g b : Nat) (l : List UInt8) (err : Nat) (tx ty : Int) (w : World) (h : Rdr w g b l err) (hb : Blk w p #[.int .i64 1, .int .u64 tx, .int .i64 ty, .string ⟨#[]⟩, .bool false, .string ⟨#[]⟩, .int .u64 0, .slice none 0 0, .slice none 0 0, .slice none 0 0, .slice none 0 0, .slice none 0 0] 31) (hpg : p ≠ g) (hpb : p ≠ b) :
    Calls Tryz.prog 36 #[.pointer (some ⟨p, 0, none⟩), .pointer (some ⟨g, 0, none⟩)] w (ReadPost p g w (rbody 1 (tx, ty) l err).1) := by
  obtain ⟨A, hA⟩ : ∃ x, x = rstr 24 l err := ⟨_, rfl⟩
  obtain ⟨B, hB⟩ : ∃ x, x = rflag A.2.1 A.2.2 := ⟨_, rfl⟩
  obtain ⟨C, hC⟩ : ∃ x, x = rstr 48 B.2.1 B.2.2 := ⟨_, rfl⟩
  obtain ⟨S, hS⟩ : ∃ x, x = rturn C.2.1 C.2.2 := ⟨_, rfl⟩
  have HP : Hid ((rbody 1 (tx, ty) l err).1 = ⟨1, tx, ty, A.1, B.1, C.1, S.1.1, [], [], S.1.2, [], []⟩) := by subst hS hC hB hA; rfl
  have HA : Hid (Calls _ _ _ _ _) := rstr_read 24 (by omega) g b l err w h
  have HBB : Hid (∀ W, Rdr W g b A.2.1 A.2.2 → Calls Tryz.prog 81 #[.pointer (some ⟨g, 0, none⟩)] W fun e w' => ∃ v, e = .returned v ∧ vBool W.heap.size w' v B.1 ∧ Rdr w' g b B.2.1 B.2.2 ∧ W.grownBy w' (some g)) := fun W hW => by subst hB; exact rflag_read g b _ _ W hW
  have HCC : Hid (∀ W, Rdr W g b B.2.1 B.2.2 → Calls Tryz.prog 80 #[.pointer (some ⟨g, 0, none⟩), .int .i64 48] W fun e w' => ∃ v, e = .returned v ∧ vStr W.heap.size w' v C.1 ∧ Rdr w' g b C.2.1 C.2.2 ∧ W.grownBy w' (some g)) := fun W hW => by subst hC; exact rstr_read 48 (by omega) g b _ _ W hW
  have HSS : Hid (∀ W, Rdr W g b C.2.1 C.2.2 → Blk W p #[.int .i64 1, .int .u64 tx, .int .i64 ty, .string A.1, .bool B.1, .string C.1, .int .u64 0, .slice none 0 0, .slice none 0 0, .slice none 0 0, .slice none 0 0, .slice none 0 0] 31 → Calls Tryz.prog 82 #[.pointer (some ⟨p, 0, none⟩), .pointer (some ⟨g, 0, none⟩)] W fun e w' => e = .returned (.tuple #[]) ∧ ∃ (xs : List ChgV) (a : Option Addr) (n m : Nat), xs.map ChgV.q = S.1.2 ∧ StaI W.heap.size w'.heap.size w' (fun W => RowsN W 9 ChgV.c (.slice a n m) xs ∧ ∀ x ∈ xs, x.At W) ∧ Blk w' p ((#[.int .i64 1, .int .u64 tx, .int .i64 ty, .string A.1, .bool B.1, .string C.1, .int .u64 0, .slice none 0 0, .slice none 0 0, .slice none 0 0, .slice none 0 0, .slice none 0 0].setIfInBounds 6 (.int .u64 S.1.1)).setIfInBounds 9 (.slice a n m)) 31 ∧ Two g p W w') := fun W hW hBW => by subst hS; exact rturn_read p g b _ _ _ W rfl hW hBW hpg hpb rfl rfl
  have FA : A.1.size ≤ 24 := by subst hA; exact rstr_size 24 _ _
  have FC : C.1.size ≤ 48 := by subst hC; exact rstr_size 48 _ _
  have hA2 : Hid (ReadP (rstr 24) g b l err vStr w = ReadP (fun _ _ => A) g b l err vStr w) := by subst hA; rfl
  rw [hA2.out] at HA
  rw [HP.out]
  clear HP hS hC hB hA hA2
  obtain ⟨A1, A2, A3⟩ := A
  obtain ⟨B1, B2, B3⟩ := B
  obtain ⟨C1, C2, C3⟩ := C
  obtain ⟨⟨S1, S2⟩, S3⟩ := S
  have HFA : Hid (A1.size ≤ maxLen ∧ C1.size ≤ maxLen) := ⟨Nat.le_trans FA (by decide), Nat.le_trans FC (by decide)⟩
  clear FA FC
  have HR : Hid (Rdr w g b l err) := h
  have HB : Hid (Blk w p #[.int .i64 1, .int .u64 tx, .int .i64 ty, .string ⟨#[]⟩, .bool false, .string ⟨#[]⟩, .int .u64 0, .slice none 0 0, .slice none 0 0, .slice none 0 0, .slice none 0 0, .slice none 0 0] 31) := hb
  have HD : Hid (p ≠ g ∧ p ≠ b ∧ g < w.heap.size ∧ p < w.heap.size) := ⟨hpg, hpb, h.lt, hb.lt⟩
  clear h hb hpg hpb
  have z0 : w.cell? ⟨p, 0, none⟩ = some (.int .i64 1) := HB.out.cell 0
  go_enter Tryz.func36, Tryz.ntmps36
  go_wp2_with fail
  refine HA.out.mono ?_
  rintro e w1 ⟨v1, rfl, hv1, h1, h2⟩
  have hv1' : v1 = .string A1 := hv1
  subst hv1'
  have HR1 : Hid (Rdr w1 g b A2 A3) := h1
  have HB1 : Hid (Blk w1 p #[.int .i64 1, .int .u64 tx, .int .i64 ty, .string ⟨#[]⟩, .bool false, .string ⟨#[]⟩, .int .u64 0, .slice none 0 0, .slice none 0 0, .slice none 0 0, .slice none 0 0, .slice none 0 0] 31) := HB.out.gr h2 HD.out.1
  have HT1 : Hid (Two g p w w1) := (Two.refl _ _ _).grown h2
  clear hv1 h1 h2 HA HB HR z0
  have HX : Hid (Calls _ _ _ _ _) := HBB.out w1 HR1.out
  go_wp2_with fail
  refine HX.out.mono ?_
  rintro e w2 ⟨v2, rfl, hv2, h1, h2⟩
  have hv2' : v2 = .bool B1 := hv2
  subst hv2'
  have HR2 : Hid (Rdr w2 g b B2 B3) := h1
  have HB2 : Hid (Blk w2 p #[.int .i64 1, .int .u64 tx, .int .i64 ty, .string ⟨#[]⟩, .bool false, .string ⟨#[]⟩, .int .u64 0, .slice none 0 0, .slice none 0 0, .slice none 0 0, .slice none 0 0, .slice none 0 0] 31) := HB1.out.gr h2 HD.out.1
  have HT2 : Hid (Two g p w w2) := HT1.out.grown h2
  clear hv2 h1 h2 HX HBB HB1 HR1 HT1
  have HX : Hid (Calls _ _ _ _ _) := HCC.out w2 HR2.out
  go_wp2_with fail
  refine HX.out.mono ?_
  rintro e w3 ⟨v3, rfl, hv3, h1, h2⟩
  have hv3' : v3 = .string C1 := hv3
  subst hv3'
  have HR3 : Hid (Rdr w3 g b C2 C3) := h1
  have HB3 : Hid (Blk w3 p #[.int .i64 1, .int .u64 tx, .int .i64 ty, .string ⟨#[]⟩, .bool false, .string ⟨#[]⟩, .int .u64 0, .slice none 0 0, .slice none 0 0, .slice none 0 0, .slice none 0 0, .slice none 0 0] 31) := HB2.out.gr h2 HD.out.1
  have HT3 : Hid (Two g p w w3) := HT2.out.grown h2
  clear hv3 h1 h2 HX HCC HB2 HR2 HT2
  have z3 : w3.cell? ⟨p, 3, none⟩ = some (.string ⟨#[]⟩) := HB3.out.cell 3
  have z4 : w3.cell? ⟨p, 4, none⟩ = some (.bool false) := HB3.out.cell 4
  have z5 : w3.cell? ⟨p, 5, none⟩ = some (.string ⟨#[]⟩) := HB3.out.cell 5
  have f3 := HB3.out.frozen 3
  have f4 := HB3.out.frozen 4
  have f5 := HB3.out.frozen 5
  have HB4 : Hid (Blk (((w3.setCell ⟨p, 3, none⟩ (.string A1)).setCell ⟨p, 4, none⟩ (.bool B1)).setCell ⟨p, 5, none⟩ (.string C1)) p #[.int .i64 1, .int .u64 tx, .int .i64 ty, .string A1, .bool B1, .string C1, .int .u64 0, .slice none 0 0, .slice none 0 0, .slice none 0 0, .slice none 0 0, .slice none 0 0] 31) := by show Blk _ _ _ _; have := ((HB3.out.set 3 (.string A1)).set 4 (.bool B1)).set 5 (.string C1); simpa using this
  have HR4 : Hid (Rdr (((w3.setCell ⟨p, 3, none⟩ (.string A1)).setCell ⟨p, 4, none⟩ (.bool B1)).setCell ⟨p, 5, none⟩ (.string C1)) g b C2 C3) := ((HR3.out.set HD.out.1.symm HD.out.2.1.symm 3 _).set HD.out.1.symm HD.out.2.1.symm 4 _).set HD.out.1.symm HD.out.2.1.symm 5 _
  have HT4 : Hid (Two g p w (((w3.setCell ⟨p, 3, none⟩ (.string A1)).setCell ⟨p, 4, none⟩ (.bool B1)).setCell ⟨p, 5, none⟩ (.string C1))) := ((HT3.out.set 3 _).set 4 _).set 5 _
  go_upto_region 3 with fail
  generalize (((w3.setCell ⟨p, 3, none⟩ (.string A1)).setCell ⟨p, 4, none⟩ (.bool B1)).setCell ⟨p, 5, none⟩ (.string C1)) = w4 at *
  clear z3 z4 z5 f3 f4 f5 HB3 HR3 HT3
  have HX : Hid (Calls _ _ _ _ _) := HSS.out w4 HR4.out HB4.out
  go_wp2_with fail
  refine HX.out.mono ?_
  rintro e w5 ⟨rfl, xs, a, n, m, hq, hr, hbk, ht⟩
  have HXS : Hid (xs.map ChgV.q = S2) := hq
  have HF : Hid (StaI w.heap.size w5.heap.size w5 fun W => RowsN W 9 ChgV.c (.slice a n m) xs ∧ ∀ x ∈ xs, x.At W) := StaI.wide hr HT4.out.size (Nat.le_refl _)
  have HBF : Hid (Blk w5 p #[.int .i64 1, .int .u64 tx, .int .i64 ty, .string A1, .bool B1, .string C1, .int .u64 S1, .slice none 0 0, .slice none 0 0, .slice a n m, .slice none 0 0, .slice none 0 0] 31) := by show Blk _ _ _ _; simpa using hbk
  have HTF : Hid (Two g p w w5) := HT4.out.trans ht
  clear hq hr hbk ht HX HSS HB4 HR4 HT4
  go_wp2
  go_end0
  exact ⟨rfl, RecV.mk 1 tx ty A1 B1 C1 S1 none 0 0 [] none 0 0 [] a n m xs none 0 0 [] none 0 0 [], by show RecQ.mk _ _ _ _ _ _ _ _ _ _ _ _ = _; rw [HXS.out]; rfl, (HF.out.mono fun W hW => ⟨HFA.out.1, HFA.out.2, Rd.nil _, Rd.nil _, fun _ h => (by cases h), hW.1, hW.2, RowsN.nil _ _ _, fun _ h => (by cases h), RowsN.nil _ _ _, fun _ h => (by cases h)⟩), HBF.out, HTF.out⟩

set_option maxRecDepth 100000 in
set_option maxHeartbeats 4000000 in
theorem read8 (p g b : Nat) (l : List UInt8) (err : Nat) (tx ty : Int) (w : World) (h : Rdr w g b l err) (hb : Blk w p #[.int .i64 8, .int .u64 tx, .int .i64 ty, .string ⟨#[]⟩, .bool false, .string ⟨#[]⟩, .int .u64 0, .slice none 0 0, .slice none 0 0, .slice none 0 0, .slice none 0 0, .slice none 0 0] 31) (hpg : p ≠ g) (hpb : p ≠ b) :
    Calls Tryz.prog 36 #[.pointer (some ⟨p, 0, none⟩), .pointer (some ⟨g, 0, none⟩)] w (ReadPost p g w (rbody 8 (tx, ty) l err).1) := by
  obtain ⟨A, hA⟩ : ∃ x, x = rall ropen 200 l err := ⟨_, rfl⟩
  obtain ⟨B, hB⟩ : ∃ x, x = rall rdone 200 A.2.1 A.2.2 := ⟨_, rfl⟩
  have HP : Hid ((rbody 8 (tx, ty) l err).1 = ⟨8, tx, ty, .empty, false, .empty, 0, [], [], [], A.1, B.1⟩) := by subst hB hA; rfl
  have HA : Hid (Calls Tryz.prog 85 #[.pointer (some ⟨g, 0, none⟩), .int .u64 200, .func (.func 86) #[] #[]] w fun e w' => ∃ v, e = .returned v ∧ vRows 7 OpenV.c (fun W x => OpenV.At W x) OpenV.q w.heap.size w' v A.1 ∧ Rdr w' g b A.2.1 A.2.2 ∧ w.grownBy w' (some g)) := by subst hA; exact readAllO 200 (by omega) g b l err w h
  have HBB : Hid (∀ W, Rdr W g b A.2.1 A.2.2 → Calls Tryz.prog 87 #[.pointer (some ⟨g, 0, none⟩), .int .u64 200, .func (.func 88) #[] #[]] W fun e w' => ∃ v, e = .returned v ∧ vRows 3 DoneV.c (fun W x => DoneV.At W x) DoneV.q W.heap.size w' v B.1 ∧ Rdr w' g b B.2.1 B.2.2 ∧ W.grownBy w' (some g)) := fun W hW => by subst hB; exact readAllD 200 (by omega) g b _ _ W hW
  rw [HP.out]
  clear HP hB hA
  obtain ⟨A1, A2, A3⟩ := A
  obtain ⟨B1, B2, B3⟩ := B
  have HR : Hid (Rdr w g b l err) := h
  have HB : Hid (Blk w p #[.int .i64 8, .int .u64 tx, .int .i64 ty, .string ⟨#[]⟩, .bool false, .string ⟨#[]⟩, .int .u64 0, .slice none 0 0, .slice none 0 0, .slice none 0 0, .slice none 0 0, .slice none 0 0] 31) := hb
  have HD : Hid (p ≠ g ∧ p ≠ b ∧ g < w.heap.size ∧ p < w.heap.size) := ⟨hpg, hpb, h.lt, hb.lt⟩
  clear h hb hpg hpb
  have z0 : w.cell? ⟨p, 0, none⟩ = some (.int .i64 8) := HB.out.cell 0
  go_enter Tryz.func36, Tryz.ntmps36
  go_wp2_with fail
  refine HA.out.mono ?_
  rintro e w1 ⟨v1, rfl, ⟨xs, hxs, ⟨n, a, m, rfl⟩, hs⟩, h1, h2⟩
  have HX1 : Hid (xs.map OpenV.q = A1) := hxs
  have HR1 : Hid (Rdr w1 g b A2 A3) := h1
  have HB1 : Hid (Blk w1 p #[.int .i64 8, .int .u64 tx, .int .i64 ty, .string ⟨#[]⟩, .bool false, .string ⟨#[]⟩, .int .u64 0, .slice none 0 0, .slice none 0 0, .slice none 0 0, .slice none 0 0, .slice none 0 0] 31) := HB.out.gr h2 HD.out.1
  have HT1 : Hid (Two g p w w1) := (Two.refl _ _ _).grown h2
  have HS1 : Hid (StaI w.heap.size w1.heap.size w1 fun W => RowsN W 7 OpenV.c (.slice a n m) xs ∧ ∀ x ∈ xs, x.At W) := hs
  clear hxs hs h1 h2 HA HB HR z0
  have HX : Hid (Calls _ _ _ _ _) := HBB.out w1 HR1.out
  go_wp2_with fail
  refine HX.out.mono ?_
  rintro e w2 ⟨v2, rfl, ⟨ys, hys, ⟨n2, a2, m2, rfl⟩, hs⟩, h1, h2⟩
  have HX2 : Hid (ys.map DoneV.q = B1) := hys
  have HB2 : Hid (Blk w2 p #[.int .i64 8, .int .u64 tx, .int .i64 ty, .string ⟨#[]⟩, .bool false, .string ⟨#[]⟩, .int .u64 0, .slice none 0 0, .slice none 0 0, .slice none 0 0, .slice none 0 0, .slice none 0 0] 31) := HB1.out.gr h2 HD.out.1
  have HT2 : Hid (Two g p w w2) := HT1.out.grown h2
  have HS2 : Hid (StaI w.heap.size w1.heap.size w2 fun W => RowsN W 7 OpenV.c (.slice a n m) xs ∧ ∀ x ∈ xs, x.At W) := HS1.out.grown (Nat.le_refl _) h2 HD.out.2.2.1
  have HS3 : Hid (StaI w1.heap.size w2.heap.size w2 fun W => RowsN W 3 DoneV.c (.slice a2 n2 m2) ys ∧ ∀ x ∈ ys, x.At W) := hs
  have HLO : Hid (p < w1.heap.size) := HB1.out.lt
  have HWS : Hid (w1.heap.size ≤ w2.heap.size) := h2.size
  have HWT : Hid (w.heap.size ≤ w1.heap.size) := HT1.out.size
  clear hys hs h1 h2 HX HBB HB1 HR1 HT1 HS1
  have z10 : w2.cell? ⟨p, 10, none⟩ = some (.slice none 0 0) := HB2.out.cell 10
  have z11 : w2.cell? ⟨p, 11, none⟩ = some (.slice none 0 0) := HB2.out.cell 11
  have f10 := HB2.out.frozen 10
  have f11 := HB2.out.frozen 11
  have HF : Hid (StaI w.heap.size ((w2.setCell ⟨p, 10, none⟩ (.slice a n m)).setCell ⟨p, 11, none⟩ (.slice a2 n2 m2)).heap.size ((w2.setCell ⟨p, 10, none⟩ (.slice a n m)).setCell ⟨p, 11, none⟩ (.slice a2 n2 m2)) fun W => (RowsN W 7 OpenV.c (.slice a n m) xs ∧ ∀ x ∈ xs, x.At W) ∧ RowsN W 3 DoneV.c (.slice a2 n2 m2) ys ∧ ∀ x ∈ ys, x.At W) :=
    (((HS2.out.setCell HD.out.2.2.2 _).setCell HD.out.2.2.2 _).wide (Nat.le_refl _) (by have := HWS.out; simp; omega)).and (((HS3.out.setCell HLO.out _).setCell HLO.out _).wide HWT.out (by simp))
  have HBF : Hid (Blk ((w2.setCell ⟨p, 10, none⟩ (.slice a n m)).setCell ⟨p, 11, none⟩ (.slice a2 n2 m2)) p #[.int .i64 8, .int .u64 tx, .int .i64 ty, .string ⟨#[]⟩, .bool false, .string ⟨#[]⟩, .int .u64 0, .slice none 0 0, .slice none 0 0, .slice none 0 0, .slice a n m, .slice a2 n2 m2] 31) := by show Blk _ _ _ _; have := (HB2.out.set 10 (.slice a n m)).set 11 (.slice a2 n2 m2); simpa using this
  have HTF : Hid (Two g p w ((w2.setCell ⟨p, 10, none⟩ (.slice a n m)).setCell ⟨p, 11, none⟩ (.slice a2 n2 m2))) := (HT2.out.set 10 _).set 11 _
  go_wp2
  go_end0
  exact ⟨rfl, RecV.mk 8 tx ty .empty false .empty 0 none 0 0 [] none 0 0 [] none 0 0 [] a n m xs a2 n2 m2 ys, by show RecQ.mk _ _ _ _ _ _ _ _ _ _ _ _ = _; rw [HX1.out, HX2.out]; rfl, (HF.out.mono fun W hW => ⟨empty_max, empty_max, Rd.nil _, Rd.nil _, fun _ h => (by cases h), RowsN.nil _ _ _, fun _ h => (by cases h), hW.1.1, hW.1.2, hW.2.1, hW.2.2⟩), HBF.out, HTF.out⟩
theorem recRead_any (p g b : Nat) (l : List UInt8) (err : Nat) (K tx ty : Int) (w : World) (h : Rdr w g b l err) (hb : Blk w p #[.int .i64 K, .int .u64 tx, .int .i64 ty, .string ⟨#[]⟩, .bool false, .string ⟨#[]⟩, .int .u64 0, .slice none 0 0, .slice none 0 0, .slice none 0 0, .slice none 0 0, .slice none 0 0] 31) (hpg : p ≠ g) (hpb : p ≠ b) (hK : 0 ≤ K ∧ K ≤ 8) :
    Calls Tryz.prog 36 #[.pointer (some ⟨p, 0, none⟩), .pointer (some ⟨g, 0, none⟩)] w (ReadPost p g w (rbody K (tx, ty) l err).1) := by
  rcases (show K = 1 ∨ K = 2 ∨ K = 3 ∨ (K = 0 ∨ K = 4 ∨ K = 5 ∨ K = 7) ∨ K = 6 ∨ K = 8 by omega) with k | k | k | k | k | k
  · subst k; exact read1 p g b l err tx ty w h hb hpg hpb
  · subst k; exact read2 p g b l err tx ty w h hb hpg hpb
  · subst k; exact read3 p g b l err tx ty w h hb hpg hpb
  · exact read0 p g b l err K tx ty w h hb hpg hpb k
  · subst k; exact read6 p g b l err tx ty w h hb hpg hpb
  · subst k; exact read8 p g b l err tx ty w h hb hpg hpb
end Go.Proofs.YtbgofajldkblmaaGreat

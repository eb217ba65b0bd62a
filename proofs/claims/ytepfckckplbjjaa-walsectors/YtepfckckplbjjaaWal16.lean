/- The law's found: what a log's entries are. Own lemmas, no statement. -/
import Derived.Test.YtepfckckplbjjaaWal15
namespace Go.Proofs.Ytepfckckplbjjaa
open Go.ChangeShapes Go.WideShapes Go.ChangeAt Go.RowKit Go Go.Shelf
attribute [local go_sem] Oper.semAt_some

theorem all_any (g : Nat) (n : Nat) (w : World) : Calls Try.prog 36 #[lptr g, .int .u64 (n : Int)] w fun e w' => e = .returned (.func (.func 53) #[] #[.pointer (some ⟨w.heap.size, 0, none⟩), .pointer (some ⟨w.heap.size + 1, 0, none⟩)]) ∧ w' = (w.alloc (.cells #[lptr g] 28)).alloc (.cells #[.int .u64 (n : Int)] 34) := by
  unfold lptr
  go_enter Try.func36, Try.ntmps36
  go_wp2_with fail
  go_ret
  exact ⟨rfl, rfl⟩
theorem all_good {n : Nat} (hn : 1 ≤ n) {b0 b1 n₀ g : Nat} {f : Foot} {s : LSt} {st : DSt} {from_ lf : Nat} {es : List (Nat × List UInt8)} {w : World}
    (hW : WL w g f s st) (hlow : Hid (g < n₀ ∧ ∀ i, f.has i → i < n₀)) (hn₀ : n₀ ≤ w.heap.size) (hx0 : Boxed w b0 28 (lptr g)) (hx1 : Boxed w b1 34 (.int .u64 (from_ : Int))) (hC : Chain s st from_ s.least es s.next lf) (hfirst : s.first ≤ from_) (hnx : s.next < 9223372036853000000) (hl64 : s.least < 18446744073709551616) :
    SeqGood Fence.wide n Try.prog 53 #[.pointer (some ⟨b0, 0, none⟩), .pointer (some ⟨b1, 0, none⟩)] encE goodE (KpL n₀ b0) (fun xs => xs.map Ent.two = es) (fun pre => pre.map Ent.two <+: es) (fun pre x => (pre ++ [x]).map Ent.two <+: es) w := fun l J Jx W hb hJ _ h0 hY =>
  all1_in n hn l b0 b1 n₀ g f s st from_ lf es J Jx W (hW.below hb) hlow (Nat.le_trans hn₀ hb.size) ((hb.block _ hx0.lt).trans hx0) ((hb.block _ hx1.lt).trans hx1) hC hfirst hnx hl64 hJ h0 hY

theorem kpL_turn {n₀ b0 B : Nat} (h0 : n₀ ≤ B) (h1 : b0 < B) (x : Ent) (W W3 : World) (l : Nat) (o o2 o1 o3 : Obj) (hB : B ≤ l) (hl : W.heap[l]? = some o) (ho : o.isCells = false) (hl3 : W3.heap[l]? = some o2) (_ho2 : o2.isCells = false) (hg : goodE x W)
    (h : KpL n₀ b0 x (W.putObj l o1) W3) : KpL n₀ b0 x W (W3.putObj l o3) := by
  obtain ⟨c, hc⟩ := hg.2
  have hne : x.2.2.2 ≠ l := fun e => by
    rw [← e] at hl
    have hc' : W.heap[x.2.2.2]? = _ := hc
    rw [hc'] at hl
    cases hl
    cases ho
  have hs : l < W.heap.size := (Array.getElem?_eq_some_iff.1 hl).1
  obtain ⟨k1, k2, k4⟩ := h
  refine ⟨?_, ?_, ?_⟩
  · exact (((Below.refl n₀ W).grown (grownBy_putObj' W l o1) (by omega) (fun k e => by cases e; omega)).trans k1).grown (grownBy_putObj' W3 l o3) (Nat.le_trans (Nat.le_trans h0 (by omega)) (Nat.le_of_lt (Array.getElem?_eq_some_iff.1 hl3).1)) (fun k e => by cases e; omega)
  · exact (World.putObj_heap_other (by omega)).trans (k2.trans (World.putObj_heap_other (by omega)))
  · exact (World.putObj_heap_other hne).trans (k4.trans (World.putObj_heap_other hne))
theorem goodE_turn (x : Ent) (W : World) (l : Nat) (o o' : Obj) (hl : W.heap[l]? = some o) (ho : o.isCells = false) (h : goodE x W) : goodE x (W.putObj l o') := by
  obtain ⟨⟨ao, c, e, q1, q2, q3⟩, cs, hc⟩ := h
  refine ⟨⟨ao, c, e, q1, q2, q3.1, fun ad had j u hu => ?_⟩, cs, ?_⟩
  · exact cell_kept (q3.2 ad had j u hu) (grownBy_putObj' W l o') (fun r e => by cases e; exact ⟨o, hl, ho⟩)
  · refine Blk.of hc (World.putObj_heap_other fun e => ?_)
    have hc' : W.heap[x.2.2.2]? = _ := hc
    rw [e, hl] at hc'
    cases hc'
    cases ho

theorem infoStr : (Try.prog.info? 9).map (fun i => (i.zero, i.size, i.bytes)) = some (some (.string ByteArray.empty), 1, 16) := by kernel_rfl
theorem infoU64 : (Try.prog.info? 34).map (fun i => (i.zero, i.size, i.bytes)) = some (some (.int .u64 0), 1, 8) := by kernel_rfl
def strV (x : Ent) : Value := .string ⟨x.2.2.1.toArray⟩
def numV (x : Ent) : Value := .int .u64 (x.1 : Int)
/-- What found's body has laid by. -/
def FoundI (n₀ B1 B2 b0 g : Nat) (w : World) (pre : List Ent) (W : World) : Prop :=
  (∃ v, Boxed W B1 32 v ∧ W.ownsRow n₀ 9 1 v pre.length (pre.map strV) ∧ True) ∧ (∃ v, Boxed W B2 33 v ∧ W.ownsRow n₀ 34 1 v pre.length (pre.map numV) ∧ True) ∧ Boxed W b0 28 (lptr g) ∧ Below n₀ w W
theorem boxed_abide {B b : Nat} {t : TypeId} {v : Value} : OwnFrom B (fun (_ : List Ent) W => Boxed W b t v) := fun s W W' row h hg hr => h.kept hg (fun e => by
  obtain ⟨_, o, ho, hc⟩ := hr b e.symm
  have h' : W.heap[b]? = _ := h
  rw [h'] at ho
  cases ho
  cases hc)
theorem foundI_own {n₀ B1 B2 b0 g B : Nat} {w : World} (h : n₀ ≤ w.heap.size) (hB : n₀ ≤ B) : OwnFrom B (FoundI n₀ B1 B2 b0 g w) :=
  OwnFrom.and (Own.from (holdsRow_own n₀ B1 32 9 1 (fun pre : List Ent => pre.length) (fun pre => pre.map strV) (fun _ _ => True)) _)
    (OwnFrom.and (Own.from (holdsRow_own n₀ B2 33 34 1 (fun pre : List Ent => pre.length) (fun pre => pre.map numV) (fun _ _ => True)) _)
      (OwnFrom.and boxed_abide (ownFrom_below h hB)))
theorem ownsRow_empty (w : World) (T : TypeId) (g : Nat) (h : Blk w g #[] T) (B k : Nat) (hB : B ≤ g) : w.ownsRow B T k (.slice (some ⟨g, 0, none⟩) 0 0) 0 [] := by
  refine ⟨by simp, .inr ⟨g, 0, #[], rfl, hB, h, ?_⟩⟩
  simp

theorem own_keptW {W W' : World} {B : Nat} {T : TypeId} {k n : Nat} {v : Value} {us : List Value} (h : W.ownsRow B T k v n us) (hb : ∀ g, v.ownBlock = some g → W'.heap[g]? = W.heap[g]?) : W'.ownsRow B T k v n us := by
  refine ⟨h.1, ?_⟩
  rcases h.2 with hn | ⟨g, cap, cur, rfl, hbg, hgg, rest⟩
  · exact .inl hn
  · exact .inr ⟨g, cap, cur, rfl, hbg, by rw [hb g rfl]; exact hgg, rest⟩
theorem own_block {W : World} {B : Nat} {T : TypeId} {k n : Nat} {v : Value} {us : List Value} (h : W.ownsRow B T k v n us) {g : Nat} (hg : v.ownBlock = some g) : ∃ c, Blk W g c T := by
  rcases h.2 with ⟨rfl, _⟩ | ⟨g', cap, cur, rfl, _, hgg, _⟩
  · cases hg
  · simp only [Value.ownBlock, Option.some.injEq] at hg
    subst hg
    exact ⟨cur, hgg⟩
/-- What is no row of that type, and not the box, is kept by an append and its store. -/
theorem app_other {W w1 : World} {n₀ B k size m : Nat} {e T : TypeId} {v : Value} {xs : List Value} {tmp : Obj} {c : Array Value} (hrow : W.ownsRow n₀ e size v m xs) (hgrow : (W.alloc tmp).grownBy w1 v.ownBlock) (hk : Blk W k c T) (hT : T ≠ e) (hB : k ≠ B) (u : Value) : (w1.setCell ⟨B, 0, none⟩ u).heap[k]? = W.heap[k]? := by
  have hlt := hk.lt
  refine (Below.heap_setCell _ _ _ _ hB).trans ((hgrow.block k (by simp; omega) fun h => ?_).trans (Below.heap_alloc _ _ _ hlt))
  obtain ⟨c', hc'⟩ := own_block hrow h.symm
  exact hT (hk.inj hc').2

/-- What the body of found holds. -/
structure FB (n₀ B1 B2 b0 g xe : Nat) (cs : Array Value) (W0 W : World) (v1 v2 : Value) (k1 k2 : Nat) (l1 l2 : List Value) : Prop where
  bx1 : Boxed W B1 32 v1
  o1 : W.ownsRow n₀ 9 1 v1 k1 l1
  bx2 : Boxed W B2 33 v2
  o2 : W.ownsRow n₀ 34 1 v2 k2 l2
  bx0 : Boxed W b0 28 (lptr g)
  en : Blk W xe cs 95
  kp : KeepsOthers W0 W
  bel : Below n₀ W0 W
  s0 : W.heap[b0]? = W0.heap[b0]?
  se : W.heap[xe]? = W0.heap[xe]?
theorem FB.push1 {n₀ B1 B2 b0 g xe : Nat} {cs : Array Value} {W0 W w1 : World} {v1 v2 v1' y : Value} {k1 k2 : Nat} {l1 l2 : List Value} {tmp : Obj} (h : FB n₀ B1 B2 b0 g xe cs W0 W v1 v2 k1 k2 l1 l2) (hn : n₀ ≤ B1) (hs : n₀ ≤ W.heap.size)
    (ho : w1.ownsRow n₀ 9 1 v1' (k1 + 1) (l1 ++ [y])) (hg : (W.alloc tmp).grownBy w1 v1.ownBlock) : FB n₀ B1 B2 b0 g xe cs W0 (w1.setCell ⟨B1, 0, none⟩ v1') v1' v2 (k1 + 1) k2 (l1 ++ [y]) l2 ∧ Boxed w1 B1 32 v1 := by
  obtain ⟨a1, a2, a3, a4, a5⟩ := h.bx1.appended (by decide) h.o1 hs hn ho hg
  have ne : ∀ {k : Nat} {c : Array Value} {T : TypeId}, Blk W k c T → T ≠ 32 → k ≠ B1 := fun hk hT e => by subst e; exact hT (Blk.inj hk h.bx1).2
  have keep : ∀ {k : Nat} {c : Array Value} {T : TypeId}, Blk W k c T → T ≠ 9 → T ≠ 32 → (w1.setCell ⟨B1, 0, none⟩ v1').heap[k]? = W.heap[k]? := fun hk h1 h2 => app_other h.o1 hg hk h1 (ne hk h2) _
  exact ⟨⟨a2, a3, (keep h.bx2 (by decide) (by decide)).trans h.bx2, own_keptW h.o2 (fun k hk => by obtain ⟨c', hc'⟩ := own_block h.o2 hk; exact keep hc' (by decide) (by decide)),
    (keep h.bx0 (by decide) (by decide)).trans h.bx0, Blk.of h.en (keep h.en (by decide) (by decide)), h.kp.trans a4, h.bel.trans a5, (keep h.bx0 (by decide) (by decide)).trans h.s0, (keep h.en (by decide) (by decide)).trans h.se⟩, a1⟩
theorem FB.push2 {n₀ B1 B2 b0 g xe : Nat} {cs : Array Value} {W0 W w1 : World} {v1 v2 v2' y : Value} {k1 k2 : Nat} {l1 l2 : List Value} {tmp : Obj} (h : FB n₀ B1 B2 b0 g xe cs W0 W v1 v2 k1 k2 l1 l2) (hn : n₀ ≤ B2) (hs : n₀ ≤ W.heap.size)
    (ho : w1.ownsRow n₀ 34 1 v2' (k2 + 1) (l2 ++ [y])) (hg : (W.alloc tmp).grownBy w1 v2.ownBlock) : FB n₀ B1 B2 b0 g xe cs W0 (w1.setCell ⟨B2, 0, none⟩ v2') v1 v2' k1 (k2 + 1) l1 (l2 ++ [y]) ∧ Boxed w1 B2 33 v2 := by
  obtain ⟨a1, a2, a3, a4, a5⟩ := h.bx2.appended (by decide) h.o2 hs hn ho hg
  have ne : ∀ {k : Nat} {c : Array Value} {T : TypeId}, Blk W k c T → T ≠ 33 → k ≠ B2 := fun hk hT e => by subst e; exact hT (Blk.inj hk h.bx2).2
  have keep : ∀ {k : Nat} {c : Array Value} {T : TypeId}, Blk W k c T → T ≠ 34 → T ≠ 33 → (w1.setCell ⟨B2, 0, none⟩ v2').heap[k]? = W.heap[k]? := fun hk h1 h2 => app_other h.o2 hg hk h1 (ne hk h2) _
  exact ⟨⟨(keep h.bx1 (by decide) (by decide)).trans h.bx1, own_keptW h.o1 (fun k hk => by obtain ⟨c', hc'⟩ := own_block h.o1 hk; exact keep hc' (by decide) (by decide)), a2, a3,
    (keep h.bx0 (by decide) (by decide)).trans h.bx0, Blk.of h.en (keep h.en (by decide) (by decide)), h.kp.trans a4, h.bel.trans a5, (keep h.bx0 (by decide) (by decide)).trans h.s0, (keep h.en (by decide) (by decide)).trans h.se⟩, a1⟩

theorem size_setCellW (w : World) (a : Addr) (v : Value) : (w.setCell a v).heap.size = w.heap.size := by simp [World.setCell]
theorem one_new2 {W : World} {n : Nat} (h : W.heap.size = n) (v : Value) (T : TypeId) : ∀ j u, [v][j]? = some u → (W.alloc (.cells #[v] T)).cell? ((⟨n, 0, none⟩ : Addr).add j) = some u := by
  subst h
  exact cell_one_new _ _ _

/-- What found answers: the entries' bytes, their numbers. -/
def FoundP (w : World) (es : List (Nat × List UInt8)) (e : Ending) (w' : World) : Prop := ∃ vo va, e = .returned (.tuple #[vo, va]) ∧ w'.ownsRow w.heap.size 9 1 vo es.length (es.map fun x => .string ⟨x.2.toArray⟩) ∧
  w'.ownsRow w.heap.size 34 1 va es.length (es.map fun x => .int .u64 (x.1 : Int)) ∧ Below w.heap.size w w'

set_option maxRecDepth 100000 in
set_option maxHeartbeats 4000000 in
theorem found_any {w : World} {g : Nat} {f : Foot} {s : LSt} {st : DSt} {lf : Nat} {es : List (Nat × List UInt8)} (h : WL w g f s st) (hC : Chain s st s.first s.least es s.next lf) (hnx : s.next < 9223372036853000000) (hl64 : s.least < 18446744073709551616) (hlen : es.length < 1000000) :
    Calls Try.prog 23 #[lptr g] w (FoundP w es) := by
  have HS : Hid (∀ W, Below w.heap.size w W → Calls Try.prog 24 #[lptr g] W fun e w' => e = .returned (.int .u64 (s.first : Int)) ∧ w' = W) := fun W hb => start_any (h.below hb).l
  have HA : Hid (∀ W, Calls Try.prog 36 #[lptr g, .int .u64 (s.first : Int)] W _) := fun W => all_any g s.first W
  have HW : Hid (WL w g f s st) := h
  have HB1 : Hid (Below w.heap.size w ((((w.alloc (.cells #[] 9)).alloc (.cells #[.slice (some ⟨w.heap.size, 0, none⟩) 0 0] 32)).alloc (.cells #[] 34)).alloc (.cells #[.slice (some ⟨w.heap.size + 1 + 1, 0, none⟩) 0 0] 33))) := (((((Below.refl _ _).alloc (Nat.le_refl _) _).alloc (by simp) _).alloc (by simp; omega) _).alloc (by simp; omega) _)
  clear h
  unfold lptr at *
  refine (callsIn_wide (n := 6)).1 ?_
  refine callsIn_of_wp_marks Try.func23 rfl trivial ?_ rfl
  simp only [Try.ntmps23, List.size_toArray, List.length_cons, List.length_nil, Nat.reduceAdd, Nat.reduceSub, Array.replicate_succ, Array.replicate_zero, List.push_toArray, List.append_toArray, List.nil_append, List.cons_append]
  gi_wp2_with (refine ⟨trivial, ?_⟩; gi_at_call 24; refine (callsIn_wide.2 (HS.out _ HB1.out)).mono ?_; rintro x w2 ⟨rfl, hw⟩; rw [hw]; clear hw w2)
  refine ⟨trivial, ?_⟩
  refine (callsIn_wide.2 (HA.out _)).mono ?_
  rintro x w2 ⟨rfl, hw⟩
  have hsz : ((((w.alloc (.cells #[] 9)).alloc (.cells #[.slice (some ⟨w.heap.size, 0, none⟩) 0 0] 32)).alloc (.cells #[] 34)).alloc (.cells #[.slice (some ⟨w.heap.size + 1 + 1, 0, none⟩) 0 0] 33)).heap.size = w.heap.size + 4 := by simp
  have hsz2 : w2.heap.size = w.heap.size + 6 := by rw [hw]; simp
  have hbw : Below w.heap.size w w2 := by rw [hw]; exact (HB1.out.alloc (by rw [hsz]; omega) _).alloc (by simp; omega) _
  have x0 : Boxed w2 (w.heap.size + 4) 28 (lptr g) := by
    have := (Boxed.new ((((w.alloc (.cells #[] 9)).alloc (.cells #[.slice (some ⟨w.heap.size, 0, none⟩) 0 0] 32)).alloc (.cells #[] 34)).alloc (.cells #[.slice (some ⟨w.heap.size + 1 + 1, 0, none⟩) 0 0] 33)) 28 (lptr g)).alloc (.cells #[.int .u64 (s.first : Int)] 34)
    rw [hsz] at this
    rw [hw]
    exact this
  have x1 : Boxed w2 (w.heap.size + 5) 34 (.int .u64 (s.first : Int)) := by
    have := Boxed.new (((((w.alloc (.cells #[] 9)).alloc (.cells #[.slice (some ⟨w.heap.size, 0, none⟩) 0 0] 32)).alloc (.cells #[] 34)).alloc (.cells #[.slice (some ⟨w.heap.size + 1 + 1, 0, none⟩) 0 0] 33)).alloc (.cells #[lptr g] 28)) 34 (.int .u64 (s.first : Int))
    rw [World.size_alloc, hsz] at this
    rw [hw]
    exact this
  have hI0 : FoundI w.heap.size (w.heap.size + 1) (w.heap.size + 1 + 1 + 1) (w.heap.size + 4) g w [] w2 := by
    rw [hw]
    have k0 : Blk (w.alloc (.cells #[] 9)) w.heap.size #[] 9 := Blk.new _ _ _
    have k1 := Boxed.new (w.alloc (.cells #[] 9)) 32 (.slice (some ⟨w.heap.size, 0, none⟩) 0 0)
    have k2 := Blk.new ((w.alloc (.cells #[] 9)).alloc (.cells #[.slice (some ⟨w.heap.size, 0, none⟩) 0 0] 32)) #[] 34
    have k3 := Boxed.new (((w.alloc (.cells #[] 9)).alloc (.cells #[.slice (some ⟨w.heap.size, 0, none⟩) 0 0] 32)).alloc (.cells #[] 34)) 33 (.slice (some ⟨w.heap.size + 1 + 1, 0, none⟩) 0 0)
    simp only [World.size_alloc] at k1 k2 k3
    rw [hw] at x0 hbw
    exact ⟨⟨_, ((((k1.alloc _).alloc _).alloc _).alloc _), ownsRow_empty _ _ _ (((((k0.alloc _).alloc _).alloc _).alloc _).alloc _) _ _ (Nat.le_refl _), trivial⟩,
      ⟨_, (k3.alloc _).alloc _, ownsRow_empty _ _ _ (((k2.alloc _).alloc _).alloc _) _ _ (by omega), trivial⟩, x0, hbw⟩
  rw [hsz]
  have HI0 : Hid (FoundI w.heap.size (w.heap.size + 1) (w.heap.size + 1 + 1 + 1) (w.heap.size + 4) g w [] w2) := hI0
  have HX : Hid (Boxed w2 (w.heap.size + 4) 28 (lptr g) ∧ Boxed w2 (w.heap.size + 5) 34 (.int .u64 (s.first : Int)) ∧ Below w.heap.size w w2) := ⟨x0, x1, hbw⟩
  clear hw hsz hI0 x0 x1 hbw HS HA HB1
  gi_wp2
  refine wpIn_range_good (n := 6) (F := Fence.wide) rfl (by omega) (gf := 53) (lb := #[.pointer (some ⟨w.heap.size + 4, 0, none⟩), .pointer (some ⟨w.heap.size + 5, 0, none⟩)]) rfl trivial (enters_of Try.func53 (by kernel_rfl) rfl)
    (all_good (n := 5) (by omega) (n₀ := w.heap.size) (HW.out.below HX.out.2.2) ⟨HW.out.lt.1, HW.out.lt.2⟩ (by omega) HX.out.1 HX.out.2.1 hC (Nat.le_refl _) hnx hl64) (kpL_turn (by omega) (by omega)) goodE_turn (Below.refl _ _) (fun _ => rfl)
    (FoundI w.heap.size (w.heap.size + 1) (w.heap.size + 1 + 1 + 1) (w.heap.size + 4) g w) (fun _ _ _ => False) (foundI_own (Nat.le_refl _) (by omega)) (fun _ _ _ _ _ hs _ _ => hs) HI0.out
    (fun x => { tmps := #[.pointer (some ⟨g, 0, none⟩), undef, .slice none 0 0, .slice none 0 0, .pointer (some ⟨w.heap.size + 1, 0, none⟩), .pointer (some ⟨w.heap.size + 1 + 1 + 1, 0, none⟩), .int .u64 (x.1 : Int), x.2.1, .slice (some ⟨w.heap.size, 0, none⟩) 0 0, .slice (some ⟨w.heap.size + 1 + 1, 0, none⟩) 0 0, .pointer (some ⟨g, 0, none⟩), .pointer (some ⟨g, 0, none⟩), .int .u64 (s.first : Int), .func (.func 53) #[] #[.pointer (some ⟨w.heap.size + 4, 0, none⟩), .pointer (some ⟨w.heap.size + 4 + 1, 0, none⟩)], .int .u64 (x.1 : Int), x.2.1, undef, undef, undef, undef, undef, undef, undef, undef, undef, undef, undef], defers := [] }) ?assign ?body ?done ?stop
  case assign =>
    rintro l ⟨xn, xv, xt, xe⟩ W K hK
    unfold encE
    gi_wp2
    exact hK
  case body =>
    rintro l pre ⟨xn, xv, xt, xe⟩ W ⟨⟨v1, bx1, own1, _⟩, ⟨v2, bx2, own2, _⟩, bx0, hB⟩ ⟨⟨ao, c, e, q1, q2, q3⟩, cs, hce⟩ hpx
    have hlt : pre.length < es.length := by
      have := hpx.length_le
      simp at this
      omega
    clear hpx
    simp only at e q1 q2 q3 hce
    subst e
    have hcv := Src.str (⟨ao, c, rfl, q1, q2, q3⟩ : Src W (.slice ao xt.length c) xt)
    obtain ⟨i1, j1, j2, j3, j4⟩ := info_parts infoStr
    obtain ⟨i2, m1, m2, m3, m4⟩ := info_parts infoU64
    have HF0 : Hid (FB w.heap.size (w.heap.size + 1) (w.heap.size + 1 + 1 + 1) (w.heap.size + 4) g xe cs W W v1 v2 pre.length pre.length (pre.map strV) (pre.map numV)) := ⟨bx1, own1, bx2, own2, bx0, hce, KeepsOthers.refl _, Below.refl _ _, rfl, rfl⟩
    have HBB : Hid (Below w.heap.size w W) := hB
    have HBS : Hid (w.heap.size ≤ W.heap.size) := hB.size
    have c1 := bx1.cell
    clear q1 q2 q3 hB own1 own2 bx1 bx2 bx0 hce
    gi_wp2_with (first | (gi_at_builtin; refine wpListIn_append_own _ rfl _ _ 32 rfl w.heap.size 9 i1 (.string ByteArray.empty) 1 16 Try.underlying32 j1 j2 j3 j4 rfl (by decide) _ _ _ rfl (HF0.out.o1.alloc _) ⟨W.heap.size, 0, none⟩ 1 1 [.string ⟨xt.toArray⟩] rfl rfl (cell_one_new _ _ _) (by simp [Value.oneCell']) (by unfold maxLen; omega) (by omega) (by have := HBS.out; simp; omega) ?_; intro v' w1 hown' hgrow _; obtain ⟨g', cap', rfl⟩ := ownsRow_succ hown'; have hX := HF0.out.push1 (by omega) HBS.out hown' hgrow; have HX1 : Hid (FB _ _ _ _ _ _ _ _ (w1.setCell ⟨w.heap.size + 1, 0, none⟩ _) _ _ _ _ _ _) := hX.1; have d1 := hX.2.cell; have e1 := hX.2.frozen; have c2 := HX1.out.bx2.cell; have hs2 : w.heap.size ≤ (w1.setCell ⟨w.heap.size + 1, 0, none⟩ (.slice (some ⟨g', 0, none⟩) (pre.length + 1) cap')).heap.size := Nat.le_trans HBS.out HX1.out.kp.size; (have HSZ : Hid ((w1.setCell ⟨w.heap.size + 1, 0, none⟩ (.slice (some ⟨g', 0, none⟩) (pre.length + 1) cap')).heap.size = w1.heap.size) := size_setCellW _ _ _); (clear hX hown' hgrow)) | (gi_at_builtin; refine wpListIn_append_own _ rfl _ _ 33 rfl w.heap.size 34 i2 (.int .u64 0) 1 8 Try.underlying33 m1 m2 m3 m4 rfl (by decide) _ _ _ rfl (HX1.out.o2.alloc _) ⟨w1.heap.size, 0, none⟩ 1 1 [.int .u64 (xn : Int)] rfl rfl (one_new2 HSZ.out _ _) (by simp [Value.oneCell']) (by unfold maxLen; omega) (by omega) (by rw [World.size_alloc]; omega) ?_; intro v' w3 hown' hgrow _; obtain ⟨g2', cap2', rfl⟩ := ownsRow_succ hown'; have hX := HX1.out.push2 (by omega) hs2 hown' hgrow; have HX2 : Hid (FB _ _ _ _ _ _ _ _ (w3.setCell ⟨w.heap.size + 1 + 1 + 1, 0, none⟩ _) _ _ _ _ _ _) := hX.1; have d2 := hX.2.cell; have e2 := hX.2.frozen; clear hX hown' hgrow))
    have hK := HX2.out
    exact ⟨hK.kp.from _, ⟨hK.bel, hK.s0, hK.se⟩, ⟨_, hK.bx1, by rw [List.length_append, List.map_append]; exact hK.o1, trivial⟩, ⟨_, hK.bx2, by rw [List.length_append, List.map_append]; exact hK.o2, trivial⟩, hK.bx0, HBB.out.trans hK.bel⟩
  case done =>
    rintro D ys W hD hys ⟨⟨v1, bx1, own1, _⟩, ⟨v2, bx2, own2, _⟩, bx0, hB⟩ hK
    have c1 := bx1.cell
    have c2 := bx2.cell
    have hKd : W.drew.heap[D]? = some (.deferred (some [])) := hK
    have hF : FoundP w es (.returned (.tuple #[v1, v2])) (W.drew.putObj D (.deferred none)) := by
      have r1 : W.drew.ownsRow w.heap.size 9 1 v1 ys.length (ys.map strV) := own_keptW own1 (fun _ _ => rfl)
      have r2 : W.drew.ownsRow w.heap.size 34 1 v2 ys.length (ys.map numV) := own_keptW own2 (fun _ _ => rfl)
      refine ⟨v1, v2, rfl, ?_, ?_, ?_⟩
      · rw [← hys, List.length_map, List.map_map]
        exact ownsRow_putObj r1 _ hKd rfl
      · rw [← hys, List.length_map, List.map_map]
        exact ownsRow_putObj r2 _ hKd rfl
      · exact hB.drew.trans (belowK_b (w := w) (Nat.le_refl _) W.drew D _ _ (by omega) hKd rfl rfl)
    have HF : Hid (FoundP w es (.returned (.tuple #[v1, v2])) (W.drew.putObj D (.deferred none))) := hF
    clear hF hys bx1 bx2 own1 own2 bx0 hB hK
    gi_wp2
    gi_region
    all_goals
      gi_wp2
      refine ⟨by simp, .inl ⟨_, _, rfl, run_takeDeferred hKd, ?_⟩⟩
      exact ⟨_, results_tmp2 (t := 2) (u := 3) rfl _ _ _, HF.out⟩
  case stop =>
    rintro D c pre W _ _ h _
    exact h.elim
end Go.Proofs.Ytepfckckplbjjaa

/- rec: readTurn and read. Own lemmas, no statement. -/
import Derived.Test.YthkmohcdgnldgaaGreatRecR4
set_option linter.unusedSimpArgs false
set_option linter.unusedVariables false
namespace Go.Proofs.YthkmohcdgnldgaaGreat
open Go.ChangeShapes Go.WideShapes Go.ChangeAt Go.RowKit

/-- Only the Reader's block and one more have turned. -/
def Two (g p : Nat) (w w' : World) : Prop := Chg (fun i => i = g ∨ i = p) w w'
theorem Two.grown {g p : Nat} {a w w' : World} (h : Two g p a w) (hg : w.grownBy w' (some g)) : Two g p a w' := Chg.grown h hg (fun k e _ => by cases e; exact .inl rfl)
theorem Two.set {g p : Nat} {a w : World} (h : Two g p a w) (i : Nat) (u : Value) : Two g p a (w.setCell ⟨p, i, none⟩ u) := Chg.setCell h _ (fun _ => .inr rfl) u
theorem Two.refl (g p : Nat) (w : World) : Two g p w w := Chg.refl _ _
theorem Two.trans {g p : Nat} {a b c : World} (h : Two g p a b) (k : Two g p b c) : Two g p a c := Chg.trans h k (fun _ _ e => e)
theorem StaI.two {g p lo hi : Nat} {W W' : World} {Q : World → Prop} (h : StaI lo hi W Q) (hhi : hi ≤ W.heap.size) (ht : Two g p W W') (h1 : g < lo) (h2 : p < lo) : StaI lo hi W' Q :=
  h.move fun i a b => ht.block i (by omega) (by omega)
theorem Blk.gr {p g : Nat} {c : Array Value} {T : TypeId} {W W' : World} (h : Blk W p c T) (hg : W.grownBy W' (some g)) (hn : p ≠ g) : Blk W' p c T := h.of (hg.block _ h.lt (fun e => hn (by cases e; rfl)))
theorem Rdr.set {W : World} {g b p : Nat} {l : List UInt8} {err : Nat} (h : Rdr W g b l err) (h1 : g ≠ p) (h2 : b ≠ p) (i : Nat) (u : Value) : Rdr (W.setCell ⟨p, i, none⟩ u) g b l err :=
  h.kept (by simp) (Below.heap_setCell _ _ _ _ (by exact h1)) (Below.heap_setCell _ _ _ _ (by exact h2))

set_option maxRecDepth 100000 in
set_option maxHeartbeats 4000000 in
theorem rturn_read (p g b : Nat) (l : List UInt8) (err : Nat) (c : Array Value) (w : World) (hc : c.size = 12) (h : Rdr w g b l err) (hb : Blk w p c 31) (hpg : p ≠ g) (hpb : p ≠ b) (c6 : c[6]? = some (.int .u64 0)) (c9 : c[9]? = some (.slice none 0 0)) :
    Calls Tryz.prog 82 #[.pointer (some ⟨p, 0, none⟩), .pointer (some ⟨g, 0, none⟩)] w fun e w' => e = .returned (.tuple #[]) ∧ ∃ (xs : List ChgV) (a : Option Addr) (n m : Nat), xs.map ChgV.q = (rturn l err).1.2 ∧ StaI w.heap.size w'.heap.size w' (fun W => RowsN W 9 ChgV.c (.slice a n m) xs ∧ ∀ x ∈ xs, x.At W) ∧ Blk w' p ((c.setIfInBounds 6 (.int .u64 (rturn l err).1.1)).setIfInBounds 9 (.slice a n m)) 31 ∧ Two g p w w' := by
  obtain ⟨N, hN⟩ : ∃ x, x = rint 4611686018427387904 l err := ⟨_, rfl⟩
  obtain ⟨S, hS⟩ : ∃ x, x = rall rchg 30 N.2.1 N.2.2 := ⟨_, rfl⟩
  have HP : rturn l err = ((N.1, S.1), S.2.1, S.2.2) := by subst hS hN; rfl
  have HCN : Hid (∀ W, Rdr W g b l err → Calls Tryz.prog 34 #[.pointer (some ⟨g, 0, none⟩), .int .u64 4611686018427387904] W fun e w' => ∃ v, e = .returned v ∧ vU64 W.heap.size w' v N.1 ∧ Rdr w' g b N.2.1 N.2.2 ∧ W.grownBy w' (some g)) := fun W hW => by subst hN; exact rint_read 4611686018427387904 g b _ _ W hW
  have HCS : Hid (∀ W, Rdr W g b N.2.1 N.2.2 → Calls Tryz.prog 102 #[.pointer (some ⟨g, 0, none⟩), .int .u64 30, .func (.func 103) #[] #[]] W fun e w' => ∃ v, e = .returned v ∧ vRows 9 ChgV.c (fun W x => ChgV.At W x) ChgV.q W.heap.size w' v S.1 ∧ Rdr w' g b S.2.1 S.2.2 ∧ W.grownBy w' (some g)) := fun W hW => by subst hS; exact readAllC 30 (by omega) g b _ _ W hW
  rw [HP]
  clear HP hS hN
  obtain ⟨Nv, Nl, Ne⟩ := N
  obtain ⟨Sv, Sl, Se⟩ := S
  have HR : Hid (Rdr w g b l err) := h
  have HB : Hid (Blk w p c 31) := hb
  have HD : Hid (p ≠ g ∧ p ≠ b ∧ g < w.heap.size ∧ p < w.heap.size) := ⟨hpg, hpb, h.lt, hb.lt⟩
  have C6 : Hid (c[6]? = some (.int .u64 0)) := c6
  have C9 : Hid (c[9]? = some (.slice none 0 0)) := c9
  have HC12 : Hid (c.size = 12) := hc
  clear h hb hpg hpb c6 c9 hc
  go_enter Tryz.func82, Tryz.ntmps82
  have HCC : Hid (Calls _ _ _ _ _) := HCN.out w HR.out
  go_wp2_with fail
  refine HCC.out.mono ?_
  rintro e w1 ⟨v0, rfl, hv0, h1, h2⟩
  have hv0' : v0 = .int .u64 Nv := hv0
  subst hv0'
  have HR1 : Hid (Rdr w1 g b Nl Ne) := h1
  have HB1 : Hid (Blk w1 p c 31) := HB.out.gr h2 HD.out.1
  have HT1 : Hid (Two g p w w1) := (Two.refl _ _ _).grown h2
  clear hv0 h1 h2 HCC HR HB
  have HCC : Hid (Calls _ _ _ _ _) := HCS.out w1 HR1.out
  go_wp2_with fail
  refine HCC.out.mono ?_
  rintro e w2 ⟨v1, rfl, hv1, h1, h2⟩
  obtain ⟨xs, hxs, ⟨n, a, m, rfl⟩, hsta⟩ := hv1
  have HXS : Hid (xs.map ChgV.q = Sv) := hxs
  have HB2 : Hid (Blk w2 p c 31) := HB1.out.gr h2 HD.out.1
  have HT2 : Hid (Two g p w w2) := HT1.out.grown h2
  have HS2 : Hid (StaI w1.heap.size w2.heap.size w2 fun W => RowsN W 9 ChgV.c (.slice a n m) xs ∧ ∀ x ∈ xs, x.At W) := hsta
  have HLO : Hid (p < w1.heap.size) := HB1.out.lt
  have HWS : Hid (w.heap.size ≤ w1.heap.size) := HT1.out.size
  clear hxs hsta h1 h2 HCC HR1 HB1 HT1
  have z6 : w2.cell? ⟨p, 6, none⟩ = some (.int .u64 0) := (HB2.out.cell 6).trans C6.out
  have z9 : w2.cell? ⟨p, 9, none⟩ = some (.slice none 0 0) := (HB2.out.cell 9).trans C9.out
  have f6 := HB2.out.frozen 6
  have f9 := HB2.out.frozen 9
  have HF : Hid (StaI w.heap.size ((w2.setCell ⟨p, 6, none⟩ (.int .u64 Nv)).setCell ⟨p, 9, none⟩ (.slice a n m)).heap.size ((w2.setCell ⟨p, 6, none⟩ (.int .u64 Nv)).setCell ⟨p, 9, none⟩ (.slice a n m)) fun W => RowsN W 9 ChgV.c (.slice a n m) xs ∧ ∀ x ∈ xs, x.At W) := ((HS2.out.setCell HLO.out _).setCell HLO.out _).wide HWS.out (by simp)
  have HBF : Hid (Blk ((w2.setCell ⟨p, 6, none⟩ (.int .u64 Nv)).setCell ⟨p, 9, none⟩ (.slice a n m)) p ((c.setIfInBounds 6 (.int .u64 Nv)).setIfInBounds 9 (.slice a n m)) 31) := (HB2.out.set 6 _).set 9 _
  have HTF : Hid (Two g p w ((w2.setCell ⟨p, 6, none⟩ (.int .u64 Nv)).setCell ⟨p, 9, none⟩ (.slice a n m))) := (HT2.out.set 6 _).set 9 _
  go_wp2
  go_end0
  exact ⟨rfl, xs, a, n, m, HXS.out, HF.out, HBF.out, HTF.out⟩

/-- What read leaves. -/
def ReadPost (p g : Nat) (w : World) (q : RecQ) (e : Ending) (w' : World) : Prop := e = .returned (.tuple #[]) ∧ ∃ x : RecV, x.q = q ∧ StaI w.heap.size w'.heap.size w' (fun W => x.At W) ∧ Blk w' p #[.int .i64 x.kind, .int .u64 x.num, .int .i64 x.node, .string x.key, .bool x.was, .string x.old, .int .u64 x.prev, .slice x.na x.nn x.nc, .slice x.ra x.rn x.rc, .slice x.ga x.gn x.gc, .slice x.oa x.om x.oc, .slice x.da x.dn x.dc] 31 ∧ Two g p w w'
theorem empty_max : ByteArray.empty.size ≤ maxLen := Nat.zero_le _

set_option maxRecDepth 100000 in
set_option maxHeartbeats 4000000 in
theorem read3 (p g b : Nat) (l : List UInt8) (err : Nat) (tx ty : Int) (w : World) (h : Rdr w g b l err) (hb : Blk w p #[.int .i64 3, .int .u64 tx, .int .i64 ty, .string ⟨#[]⟩, .bool false, .string ⟨#[]⟩, .int .u64 0, .slice none 0 0, .slice none 0 0, .slice none 0 0, .slice none 0 0, .slice none 0 0] 31) (hpg : p ≠ g) (hpb : p ≠ b) :
    Calls Tryz.prog 36 #[.pointer (some ⟨p, 0, none⟩), .pointer (some ⟨g, 0, none⟩)] w (ReadPost p g w (rbody 3 (tx, ty) l err).1) := by
  have HP : Hid ((rbody 3 (tx, ty) l err).1 = ⟨3, tx, ty, .empty, false, .empty, 0, [], (rreads l err).1, [], [], []⟩) := rfl
  have HCC : Hid (Calls Tryz.prog 83 #[.pointer (some ⟨g, 0, none⟩)] w (ReadP (fun _ _ => rreads l err) g b l err vStrs w)) := rreads_read g b l err w h
  have HSZ : Hid (∀ s ∈ (rreads l err).1, s.size ≤ maxLen) := fun s hs => Nat.le_trans (rreads_size _ _ s hs) (by decide)
  rw [HP.out]
  clear HP
  generalize rreads l err = S at *
  obtain ⟨S1, S2, S3⟩ := S
  have HR : Hid (Rdr w g b l err) := h
  have HB : Hid (Blk w p #[.int .i64 3, .int .u64 tx, .int .i64 ty, .string ⟨#[]⟩, .bool false, .string ⟨#[]⟩, .int .u64 0, .slice none 0 0, .slice none 0 0, .slice none 0 0, .slice none 0 0, .slice none 0 0] 31) := hb
  have HD : Hid (p ≠ g ∧ p ≠ b ∧ g < w.heap.size ∧ p < w.heap.size) := ⟨hpg, hpb, h.lt, hb.lt⟩
  clear h hb hpg hpb
  have z0 : w.cell? ⟨p, 0, none⟩ = some (.int .i64 3) := HB.out.cell 0
  go_enter Tryz.func36, Tryz.ntmps36
  go_wp2_with fail
  refine HCC.out.mono ?_
  rintro e w1 ⟨v1, rfl, ⟨n, a, m, rfl, hs⟩, h1, h2⟩
  have HB1 : Hid (Blk w1 p #[.int .i64 3, .int .u64 tx, .int .i64 ty, .string ⟨#[]⟩, .bool false, .string ⟨#[]⟩, .int .u64 0, .slice none 0 0, .slice none 0 0, .slice none 0 0, .slice none 0 0, .slice none 0 0] 31) := HB.out.gr h2 HD.out.1
  have HT1 : Hid (Two g p w w1) := (Two.refl _ _ _).grown h2
  have HS1 : Hid (StaI w.heap.size w1.heap.size w1 fun W => Rd W (.slice a n m) (sv S1)) := hs
  clear hs h1 h2 HCC HB HR z0
  have z8 : w1.cell? ⟨p, 8, none⟩ = some (.slice none 0 0) := HB1.out.cell 8
  have f8 := HB1.out.frozen 8
  have HF : Hid (StaI w.heap.size (w1.setCell ⟨p, 8, none⟩ (.slice a n m)).heap.size (w1.setCell ⟨p, 8, none⟩ (.slice a n m)) fun W => (Rd W (.slice a n m) (sv S1)) ∧ ∀ s ∈ S1, s.size ≤ maxLen) := ((HS1.out.setCell HD.out.2.2.2 _).and (StaI.all HSZ.out)).wide (Nat.le_refl _) (by simp)
  have HBF : Hid (Blk (w1.setCell ⟨p, 8, none⟩ (.slice a n m)) p #[.int .i64 3, .int .u64 tx, .int .i64 ty, .string ⟨#[]⟩, .bool false, .string ⟨#[]⟩, .int .u64 0, .slice none 0 0, .slice a n m, .slice none 0 0, .slice none 0 0, .slice none 0 0] 31) := by show Blk _ _ _ _; have := HB1.out.set 8 (.slice a n m); simpa using this
  have HTF : Hid (Two g p w (w1.setCell ⟨p, 8, none⟩ (.slice a n m))) := HT1.out.set 8 _
  clear HSZ
  go_wp2
  go_end0
  exact ⟨rfl, RecV.mk (3 : Int) tx ty .empty false .empty 0 none 0 0 [] a n m S1 none 0 0 [] none 0 0 [] none 0 0 [], rfl, (HF.out.mono fun W hW => ⟨empty_max, empty_max, Rd.nil _, hW.1, hW.2, RowsN.nil _ _ _, fun _ h => (by cases h), RowsN.nil _ _ _, fun _ h => (by cases h), RowsN.nil _ _ _, fun _ h => (by cases h)⟩), HBF.out, HTF.out⟩

set_option maxRecDepth 100000 in
set_option maxHeartbeats 4000000 in
theorem read6 (p g b : Nat) (l : List UInt8) (err : Nat) (tx ty : Int) (w : World) (h : Rdr w g b l err) (hb : Blk w p #[.int .i64 6, .int .u64 tx, .int .i64 ty, .string ⟨#[]⟩, .bool false, .string ⟨#[]⟩, .int .u64 0, .slice none 0 0, .slice none 0 0, .slice none 0 0, .slice none 0 0, .slice none 0 0] 31) (hpg : p ≠ g) (hpb : p ≠ b) :
    Calls Tryz.prog 36 #[.pointer (some ⟨p, 0, none⟩), .pointer (some ⟨g, 0, none⟩)] w (ReadPost p g w (rbody 6 (tx, ty) l err).1) := by
  have HP : Hid ((rbody 6 (tx, ty) l err).1 = ⟨6, tx, ty, .empty, false, .empty, 0, (rnodes l err).1, [], [], [], []⟩) := rfl
  have HCC : Hid (Calls Tryz.prog 84 #[.pointer (some ⟨g, 0, none⟩)] w (ReadP (fun _ _ => rnodes l err) g b l err vInts w)) := rnodes_read g b l err w h
  have HSZ : Hid (True) := trivial
  rw [HP.out]
  clear HP
  generalize rnodes l err = S at *
  obtain ⟨S1, S2, S3⟩ := S
  have HR : Hid (Rdr w g b l err) := h
  have HB : Hid (Blk w p #[.int .i64 6, .int .u64 tx, .int .i64 ty, .string ⟨#[]⟩, .bool false, .string ⟨#[]⟩, .int .u64 0, .slice none 0 0, .slice none 0 0, .slice none 0 0, .slice none 0 0, .slice none 0 0] 31) := hb
  have HD : Hid (p ≠ g ∧ p ≠ b ∧ g < w.heap.size ∧ p < w.heap.size) := ⟨hpg, hpb, h.lt, hb.lt⟩
  clear h hb hpg hpb
  have z0 : w.cell? ⟨p, 0, none⟩ = some (.int .i64 6) := HB.out.cell 0
  go_enter Tryz.func36, Tryz.ntmps36
  go_wp2_with fail
  refine HCC.out.mono ?_
  rintro e w1 ⟨v1, rfl, ⟨n, a, m, rfl, hs⟩, h1, h2⟩
  have HB1 : Hid (Blk w1 p #[.int .i64 6, .int .u64 tx, .int .i64 ty, .string ⟨#[]⟩, .bool false, .string ⟨#[]⟩, .int .u64 0, .slice none 0 0, .slice none 0 0, .slice none 0 0, .slice none 0 0, .slice none 0 0] 31) := HB.out.gr h2 HD.out.1
  have HT1 : Hid (Two g p w w1) := (Two.refl _ _ _).grown h2
  have HS1 : Hid (StaI w.heap.size w1.heap.size w1 fun W => Rd W (.slice a n m) (iv S1)) := hs
  clear hs h1 h2 HCC HB HR z0
  have z8 : w1.cell? ⟨p, 7, none⟩ = some (.slice none 0 0) := HB1.out.cell 7
  have f8 := HB1.out.frozen 7
  have HF : Hid (StaI w.heap.size (w1.setCell ⟨p, 7, none⟩ (.slice a n m)).heap.size (w1.setCell ⟨p, 7, none⟩ (.slice a n m)) fun W => (Rd W (.slice a n m) (iv S1)) ∧ True) := ((HS1.out.setCell HD.out.2.2.2 _).and (StaI.all HSZ.out)).wide (Nat.le_refl _) (by simp)
  have HBF : Hid (Blk (w1.setCell ⟨p, 7, none⟩ (.slice a n m)) p #[.int .i64 6, .int .u64 tx, .int .i64 ty, .string ⟨#[]⟩, .bool false, .string ⟨#[]⟩, .int .u64 0, .slice a n m, .slice none 0 0, .slice none 0 0, .slice none 0 0, .slice none 0 0] 31) := by show Blk _ _ _ _; have := HB1.out.set 7 (.slice a n m); simpa using this
  have HTF : Hid (Two g p w (w1.setCell ⟨p, 7, none⟩ (.slice a n m))) := HT1.out.set 7 _
  clear HSZ
  go_wp2
  go_end0
  exact ⟨rfl, RecV.mk (6 : Int) tx ty .empty false .empty 0 a n m S1 none 0 0 [] none 0 0 [] none 0 0 [] none 0 0 [], rfl, (HF.out.mono fun W hW => ⟨empty_max, empty_max, hW.1, Rd.nil _, fun _ h => (by cases h), RowsN.nil _ _ _, fun _ h => (by cases h), RowsN.nil _ _ _, fun _ h => (by cases h), RowsN.nil _ _ _, fun _ h => (by cases h)⟩), HBF.out, HTF.out⟩

set_option maxRecDepth 100000 in
set_option maxHeartbeats 4000000 in
theorem read0 (p g b : Nat) (l : List UInt8) (err : Nat) (K tx ty : Int) (w : World) (h : Rdr w g b l err) (hb : Blk w p #[.int .i64 K, .int .u64 tx, .int .i64 ty, .string ⟨#[]⟩, .bool false, .string ⟨#[]⟩, .int .u64 0, .slice none 0 0, .slice none 0 0, .slice none 0 0, .slice none 0 0, .slice none 0 0] 31) (hpg : p ≠ g) (hpb : p ≠ b) (hK : K = 0 ∨ K = 4 ∨ K = 5 ∨ K = 7) :
    Calls Tryz.prog 36 #[.pointer (some ⟨p, 0, none⟩), .pointer (some ⟨g, 0, none⟩)] w (ReadPost p g w (rbody K (tx, ty) l err).1) := by
  have HP : Hid ((rbody K (tx, ty) l err).1 = ⟨K, tx, ty, .empty, false, .empty, 0, [], [], [], [], []⟩) := by
    show _ = _
    unfold rbody
    rw [if_neg (by omega), if_neg (by omega), if_neg (by omega), if_neg (by omega), if_neg (by omega)]
    rfl
  rw [HP.out]
  clear HP
  have HR : Hid (Rdr w g b l err) := h
  have HB : Hid (Blk w p #[.int .i64 K, .int .u64 tx, .int .i64 ty, .string ⟨#[]⟩, .bool false, .string ⟨#[]⟩, .int .u64 0, .slice none 0 0, .slice none 0 0, .slice none 0 0, .slice none 0 0, .slice none 0 0] 31) := hb
  have HD : Hid (p ≠ g ∧ p ≠ b ∧ g < w.heap.size ∧ p < w.heap.size) := ⟨hpg, hpb, h.lt, hb.lt⟩
  clear h hb hpg hpb
  have z0 : w.cell? ⟨p, 0, none⟩ = some (.int .i64 K) := HB.out.cell 0
  have k1 : (K == 1) = false := beq_eq_false_iff_ne.2 (by omega)
  have k2 : (K == 2) = false := beq_eq_false_iff_ne.2 (by omega)
  have k3 : (K == 3) = false := beq_eq_false_iff_ne.2 (by omega)
  have k6 : (K == 6) = false := beq_eq_false_iff_ne.2 (by omega)
  have k8 : (K == 8) = false := beq_eq_false_iff_ne.2 (by omega)
  clear hK
  go_enter Tryz.func36, Tryz.ntmps36
  go_wp2
  go_end0
  exact ⟨rfl, RecV.mk K tx ty .empty false .empty 0 none 0 0 [] none 0 0 [] none 0 0 [] none 0 0 [] none 0 0 [], rfl, (fun _ _ => ⟨empty_max, empty_max, Rd.nil _, Rd.nil _, fun _ h => (by cases h), RowsN.nil _ _ _, fun _ h => (by cases h), RowsN.nil _ _ _, fun _ h => (by cases h), RowsN.nil _ _ _, fun _ h => (by cases h)⟩), HB.out, Two.refl _ _ _⟩

set_option maxRecDepth 100000 in
set_option maxHeartbeats 4000000 in
theorem read2 (p g b : Nat) (l : List UInt8) (err : Nat) (tx ty : Int) (w : World) (h : Rdr w g b l err) (hb : Blk w p #[.int .i64 2, .int .u64 tx, .int .i64 ty, .string ⟨#[]⟩, .bool false, .string ⟨#[]⟩, .int .u64 0, .slice none 0 0, .slice none 0 0, .slice none 0 0, .slice none 0 0, .slice none 0 0] 31) (hpg : p ≠ g) (hpb : p ≠ b) :
    Calls Tryz.prog 36 #[.pointer (some ⟨p, 0, none⟩), .pointer (some ⟨g, 0, none⟩)] w (ReadPost p g w (rbody 2 (tx, ty) l err).1) := by
  have HP : Hid ((rbody 2 (tx, ty) l err).1 = ⟨2, tx, ty, .empty, false, .empty, (rturn l err).1.1, [], [], (rturn l err).1.2, [], []⟩) := rfl
  have HCC : Hid (Calls _ _ _ _ _) := rturn_read p g b l err _ w rfl h hb hpg hpb rfl rfl
  rw [HP.out]
  clear HP
  generalize rturn l err = S at *
  obtain ⟨⟨S1, S2⟩, S3⟩ := S
  have HR : Hid (Rdr w g b l err) := h
  have HB : Hid (Blk w p #[.int .i64 2, .int .u64 tx, .int .i64 ty, .string ⟨#[]⟩, .bool false, .string ⟨#[]⟩, .int .u64 0, .slice none 0 0, .slice none 0 0, .slice none 0 0, .slice none 0 0, .slice none 0 0] 31) := hb
  have HD : Hid (p ≠ g ∧ p ≠ b ∧ g < w.heap.size ∧ p < w.heap.size) := ⟨hpg, hpb, h.lt, hb.lt⟩
  clear h hb hpg hpb
  have z0 : w.cell? ⟨p, 0, none⟩ = some (.int .i64 2) := HB.out.cell 0
  go_enter Tryz.func36, Tryz.ntmps36
  go_wp2_with fail
  refine HCC.out.mono ?_
  rintro e w1 ⟨rfl, xs, a, n, m, hq, hr, hbk, ht⟩
  have HXS : Hid (xs.map ChgV.q = S2) := hq
  have HF : Hid (StaI w.heap.size w1.heap.size w1 fun W => RowsN W 9 ChgV.c (.slice a n m) xs ∧ ∀ x ∈ xs, x.At W) := hr
  have HBF : Hid (Blk w1 p #[.int .i64 2, .int .u64 tx, .int .i64 ty, .string ⟨#[]⟩, .bool false, .string ⟨#[]⟩, .int .u64 S1, .slice none 0 0, .slice none 0 0, .slice a n m, .slice none 0 0, .slice none 0 0] 31) := by show Blk _ _ _ _; simpa using hbk
  have HTF : Hid (Two g p w w1) := ht
  clear hq hr hbk ht HCC HB HR z0
  go_wp2
  go_end0
  exact ⟨rfl, RecV.mk 2 tx ty .empty false .empty S1 none 0 0 [] none 0 0 [] a n m xs none 0 0 [] none 0 0 [], by show RecQ.mk _ _ _ _ _ _ _ _ _ _ _ _ = _; rw [HXS.out]; rfl, (HF.out.mono fun W hW => ⟨empty_max, empty_max, Rd.nil _, Rd.nil _, fun _ h => (by cases h), hW.1, hW.2, RowsN.nil _ _ _, fun _ h => (by cases h), RowsN.nil _ _ _, fun _ h => (by cases h)⟩), HBF.out, HTF.out⟩

set_option maxRecDepth 100000 in
set_option maxHeartbeats 4000000 in
theorem read1 (p g b : Nat) (l : List UInt8) (err : Nat) (tx ty : Int) (w : World) (h : Rdr w g b l err) (hb : Blk w p #[.int .i64 1, .int .u64 tx, .int .i64 ty, .string ⟨#[]⟩, .bool false, .string ⟨#[]⟩, .int .u64 0, .slice none 0 0, .slice none 0 0, .slice none 0 0, .slice none 0 0, .slice none 0 0] 31) (hpg : p ≠ g) (hpb : p ≠ b) :
    Calls Tryz.prog 36 #[.pointer (some ⟨p, 0, none⟩), .pointer (some ⟨g, 0, none⟩)] w (ReadPost p g w (rbody 1 (tx, ty) l err).1) := by
  obtain ⟨A, hA⟩ : ∃ x, x = rstr 24 l err := ⟨_, rfl⟩
  obtain ⟨B, hB⟩ : ∃ x, x = rflag A.2.1 A.2.2 := ⟨_, rfl⟩
  obtain ⟨C, hC⟩ : ∃ x, x = rstr 48 B.2.1 B.2.2 := ⟨_, rfl⟩
  obtain ⟨S, hS⟩ : ∃ x, x = rturn C.2.1 C.2.2 := ⟨_, rfl⟩
  have HP : Hid ((rbody 1 (tx, ty) l err).1 = ⟨1, tx, ty, A.1, B.1, C.1, S.1.1, [], [], S.1.2, [], []⟩) := by subst hS hC hB hA; rfl
  have HA : Hid (Calls _ _ _ _ _) := rstr_read 24 (by omega) g b l err w h
  have HBB : Hid (∀ W, Rdr W g b A.2.1 A.2.2 → Calls Tryz.prog 81 #[.pointer (some ⟨g, 0, none⟩)] W fun e w' => ∃ v, e = .returned v ∧ vBool W.heap.size w' v B.1 ∧ Rdr w' g b B.2.1 B.2.2 ∧ W.grownBy w' (some g)) := fun W hW => by subst hB; exact rflag_read g b _ _ W hW
  have HCC : Hid (∀ W, Rdr W g b B.2.1 B.2.2 → Calls Tryz.prog 80 #[.pointer (some ⟨g, 0, none⟩), .int .i64 48] W fun e w' => ∃ v, e = .returned v ∧ vStr W.heap.size w' v C.1 ∧ Rdr w' g b C.2.1 C.2.2 ∧ W.grownBy w' (some g)) := fun W hW => by subst hC; exact rstr_read 48 (by omega) g b _ _ W hW
  have HSS : Hid (∀ W, Rdr W g b C.2.1 C.2.2 → Blk W p #[.int .i64 1, .int .u64 tx, .int .i64 ty, .string A.1, .bool B.1, .string C.1, .int .u64 0, .slice none 0 0, .slice none 0 0, .slice none 0 0, .slice none 0 0, .slice none 0 0] 31 → Calls Tryz.prog 82 #[.pointer (some ⟨p, 0, none⟩), .pointer (some ⟨g, 0, none⟩)] W fun e w' => e = .returned (.tuple #[]) ∧ ∃ (xs : List ChgV) (a : Option Addr) (n m : Nat), xs.map ChgV.q = S.1.2 ∧ StaI W.heap.size w'.heap.size w' (fun W => RowsN W 9 ChgV.c (.slice a n m) xs ∧ ∀ x ∈ xs, x.At W) ∧ Blk w' p ((#[.int .i64 1, .int .u64 tx, .int .i64 ty, .string A.1, .bool B.1, .string C.1, .int .u64 0, .slice none 0 0, .slice none 0 0, .slice none 0 0, .slice none 0 0, .slice none 0 0].setIfInBounds 6 (.int .u64 S.1.1)).setIfInBounds 9 (.slice a n m)) 31 ∧ Two g p W w') := fun W hW hBW => by subst hS; exact rturn_read p g b _ _ _ W rfl hW hBW hpg hpb rfl rfl
  have FA : A.1.size ≤ 24 := by subst hA; exact rstr_size 24 _ _
  have FC : C.1.size ≤ 48 := by subst hC; exact rstr_size 48 _ _
  have hA2 : Hid (ReadP (rstr 24) g b l err vStr w = ReadP (fun _ _ => A) g b l err vStr w) := by subst hA; rfl
  rw [hA2.out] at HA
  rw [HP.out]
  clear HP hS hC hB hA hA2
  obtain ⟨A1, A2, A3⟩ := A
  obtain ⟨B1, B2, B3⟩ := B
  obtain ⟨C1, C2, C3⟩ := C
  obtain ⟨⟨S1, S2⟩, S3⟩ := S
  have HFA : Hid (A1.size ≤ maxLen ∧ C1.size ≤ maxLen) := ⟨Nat.le_trans FA (by decide), Nat.le_trans FC (by decide)⟩
  clear FA FC
  have HR : Hid (Rdr w g b l err) := h
  have HB : Hid (Blk w p #[.int .i64 1, .int .u64 tx, .int .i64 ty, .string ⟨#[]⟩, .bool false, .string ⟨#[]⟩, .int .u64 0, .slice none 0 0, .slice none 0 0, .slice none 0 0, .slice none 0 0, .slice none 0 0] 31) := hb
  have HD : Hid (p ≠ g ∧ p ≠ b ∧ g < w.heap.size ∧ p < w.heap.size) := ⟨hpg, hpb, h.lt, hb.lt⟩
  clear h hb hpg hpb
  have z0 : w.cell? ⟨p, 0, none⟩ = some (.int .i64 1) := HB.out.cell 0
  go_enter Tryz.func36, Tryz.ntmps36
  go_wp2_with fail
  refine HA.out.mono ?_
  rintro e w1 ⟨v1, rfl, hv1, h1, h2⟩
  have hv1' : v1 = .string A1 := hv1
  subst hv1'
  have HR1 : Hid (Rdr w1 g b A2 A3) := h1
  have HB1 : Hid (Blk w1 p #[.int .i64 1, .int .u64 tx, .int .i64 ty, .string ⟨#[]⟩, .bool false, .string ⟨#[]⟩, .int .u64 0, .slice none 0 0, .slice none 0 0, .slice none 0 0, .slice none 0 0, .slice none 0 0] 31) := HB.out.gr h2 HD.out.1
  have HT1 : Hid (Two g p w w1) := (Two.refl _ _ _).grown h2
  clear hv1 h1 h2 HA HB HR z0
  have HX : Hid (Calls _ _ _ _ _) := HBB.out w1 HR1.out
  go_wp2_with fail
  refine HX.out.mono ?_
  rintro e w2 ⟨v2, rfl, hv2, h1, h2⟩
  have hv2' : v2 = .bool B1 := hv2
  subst hv2'
  have HR2 : Hid (Rdr w2 g b B2 B3) := h1
  have HB2 : Hid (Blk w2 p #[.int .i64 1, .int .u64 tx, .int .i64 ty, .string ⟨#[]⟩, .bool false, .string ⟨#[]⟩, .int .u64 0, .slice none 0 0, .slice none 0 0, .slice none 0 0, .slice none 0 0, .slice none 0 0] 31) := HB1.out.gr h2 HD.out.1
  have HT2 : Hid (Two g p w w2) := HT1.out.grown h2
  clear hv2 h1 h2 HX HBB HB1 HR1 HT1
  have HX : Hid (Calls _ _ _ _ _) := HCC.out w2 HR2.out
  go_wp2_with fail
  refine HX.out.mono ?_
  rintro e w3 ⟨v3, rfl, hv3, h1, h2⟩
  have hv3' : v3 = .string C1 := hv3
  subst hv3'
  have HR3 : Hid (Rdr w3 g b C2 C3) := h1
  have HB3 : Hid (Blk w3 p #[.int .i64 1, .int .u64 tx, .int .i64 ty, .string ⟨#[]⟩, .bool false, .string ⟨#[]⟩, .int .u64 0, .slice none 0 0, .slice none 0 0, .slice none 0 0, .slice none 0 0, .slice none 0 0] 31) := HB2.out.gr h2 HD.out.1
  have HT3 : Hid (Two g p w w3) := HT2.out.grown h2
  clear hv3 h1 h2 HX HCC HB2 HR2 HT2
  have z3 : w3.cell? ⟨p, 3, none⟩ = some (.string ⟨#[]⟩) := HB3.out.cell 3
  have z4 : w3.cell? ⟨p, 4, none⟩ = some (.bool false) := HB3.out.cell 4
  have z5 : w3.cell? ⟨p, 5, none⟩ = some (.string ⟨#[]⟩) := HB3.out.cell 5
  have f3 := HB3.out.frozen 3
  have f4 := HB3.out.frozen 4
  have f5 := HB3.out.frozen 5
  have HB4 : Hid (Blk (((w3.setCell ⟨p, 3, none⟩ (.string A1)).setCell ⟨p, 4, none⟩ (.bool B1)).setCell ⟨p, 5, none⟩ (.string C1)) p #[.int .i64 1, .int .u64 tx, .int .i64 ty, .string A1, .bool B1, .string C1, .int .u64 0, .slice none 0 0, .slice none 0 0, .slice none 0 0, .slice none 0 0, .slice none 0 0] 31) := by show Blk _ _ _ _; have := ((HB3.out.set 3 (.string A1)).set 4 (.bool B1)).set 5 (.string C1); simpa using this
  have HR4 : Hid (Rdr (((w3.setCell ⟨p, 3, none⟩ (.string A1)).setCell ⟨p, 4, none⟩ (.bool B1)).setCell ⟨p, 5, none⟩ (.string C1)) g b C2 C3) := ((HR3.out.set HD.out.1.symm HD.out.2.1.symm 3 _).set HD.out.1.symm HD.out.2.1.symm 4 _).set HD.out.1.symm HD.out.2.1.symm 5 _
  have HT4 : Hid (Two g p w (((w3.setCell ⟨p, 3, none⟩ (.string A1)).setCell ⟨p, 4, none⟩ (.bool B1)).setCell ⟨p, 5, none⟩ (.string C1))) := ((HT3.out.set 3 _).set 4 _).set 5 _
  go_upto_region 3 with fail
  generalize (((w3.setCell ⟨p, 3, none⟩ (.string A1)).setCell ⟨p, 4, none⟩ (.bool B1)).setCell ⟨p, 5, none⟩ (.string C1)) = w4 at *
  clear z3 z4 z5 f3 f4 f5 HB3 HR3 HT3
  have HX : Hid (Calls _ _ _ _ _) := HSS.out w4 HR4.out HB4.out
  go_wp2_with fail
  refine HX.out.mono ?_
  rintro e w5 ⟨rfl, xs, a, n, m, hq, hr, hbk, ht⟩
  have HXS : Hid (xs.map ChgV.q = S2) := hq
  have HF : Hid (StaI w.heap.size w5.heap.size w5 fun W => RowsN W 9 ChgV.c (.slice a n m) xs ∧ ∀ x ∈ xs, x.At W) := StaI.wide hr HT4.out.size (Nat.le_refl _)
  have HBF : Hid (Blk w5 p #[.int .i64 1, .int .u64 tx, .int .i64 ty, .string A1, .bool B1, .string C1, .int .u64 S1, .slice none 0 0, .slice none 0 0, .slice a n m, .slice none 0 0, .slice none 0 0] 31) := by show Blk _ _ _ _; simpa using hbk
  have HTF : Hid (Two g p w w5) := HT4.out.trans ht
  clear hq hr hbk ht HX HSS HB4 HR4 HT4
  go_wp2
  go_end0
  exact ⟨rfl, RecV.mk 1 tx ty A1 B1 C1 S1 none 0 0 [] none 0 0 [] a n m xs none 0 0 [] none 0 0 [], by show RecQ.mk _ _ _ _ _ _ _ _ _ _ _ _ = _; rw [HXS.out]; rfl, (HF.out.mono fun W hW => ⟨HFA.out.1, HFA.out.2, Rd.nil _, Rd.nil _, fun _ h => (by cases h), hW.1, hW.2, RowsN.nil _ _ _, fun _ h => (by cases h), RowsN.nil _ _ _, fun _ h => (by cases h)⟩), HBF.out, HTF.out⟩

set_option maxRecDepth 100000 in
set_option maxHeartbeats 4000000 in
theorem read8 (p g b : Nat) (l : List UInt8) (err : Nat) (tx ty : Int) (w : World) (h : Rdr w g b l err) (hb : Blk w p #[.int .i64 8, .int .u64 tx, .int .i64 ty, .string ⟨#[]⟩, .bool false, .string ⟨#[]⟩, .int .u64 0, .slice none 0 0, .slice none 0 0, .slice none 0 0, .slice none 0 0, .slice none 0 0] 31) (hpg : p ≠ g) (hpb : p ≠ b) :
    Calls Tryz.prog 36 #[.pointer (some ⟨p, 0, none⟩), .pointer (some ⟨g, 0, none⟩)] w (ReadPost p g w (rbody 8 (tx, ty) l err).1) := by
  obtain ⟨A, hA⟩ : ∃ x, x = rall ropen 200 l err := ⟨_, rfl⟩
  obtain ⟨B, hB⟩ : ∃ x, x = rall rdone 200 A.2.1 A.2.2 := ⟨_, rfl⟩
  have HP : Hid ((rbody 8 (tx, ty) l err).1 = ⟨8, tx, ty, .empty, false, .empty, 0, [], [], [], A.1, B.1⟩) := by subst hB hA; rfl
  have HA : Hid (Calls Tryz.prog 85 #[.pointer (some ⟨g, 0, none⟩), .int .u64 200, .func (.func 86) #[] #[]] w fun e w' => ∃ v, e = .returned v ∧ vRows 7 OpenV.c (fun W x => OpenV.At W x) OpenV.q w.heap.size w' v A.1 ∧ Rdr w' g b A.2.1 A.2.2 ∧ w.grownBy w' (some g)) := by subst hA; exact readAllO 200 (by omega) g b l err w h
  have HBB : Hid (∀ W, Rdr W g b A.2.1 A.2.2 → Calls Tryz.prog 87 #[.pointer (some ⟨g, 0, none⟩), .int .u64 200, .func (.func 88) #[] #[]] W fun e w' => ∃ v, e = .returned v ∧ vRows 3 DoneV.c (fun W x => DoneV.At W x) DoneV.q W.heap.size w' v B.1 ∧ Rdr w' g b B.2.1 B.2.2 ∧ W.grownBy w' (some g)) := fun W hW => by subst hB; exact readAllD 200 (by omega) g b _ _ W hW
  rw [HP.out]
  clear HP hB hA
  obtain ⟨A1, A2, A3⟩ := A
  obtain ⟨B1, B2, B3⟩ := B
  have HR : Hid (Rdr w g b l err) := h
  have HB : Hid (Blk w p #[.int .i64 8, .int .u64 tx, .int .i64 ty, .string ⟨#[]⟩, .bool false, .string ⟨#[]⟩, .int .u64 0, .slice none 0 0, .slice none 0 0, .slice none 0 0, .slice none 0 0, .slice none 0 0] 31) := hb
  have HD : Hid (p ≠ g ∧ p ≠ b ∧ g < w.heap.size ∧ p < w.heap.size) := ⟨hpg, hpb, h.lt, hb.lt⟩
  clear h hb hpg hpb
  have z0 : w.cell? ⟨p, 0, none⟩ = some (.int .i64 8) := HB.out.cell 0
  go_enter Tryz.func36, Tryz.ntmps36
  go_wp2_with fail
  refine HA.out.mono ?_
  rintro e w1 ⟨v1, rfl, ⟨xs, hxs, ⟨n, a, m, rfl⟩, hs⟩, h1, h2⟩
  have HX1 : Hid (xs.map OpenV.q = A1) := hxs
  have HR1 : Hid (Rdr w1 g b A2 A3) := h1
  have HB1 : Hid (Blk w1 p #[.int .i64 8, .int .u64 tx, .int .i64 ty, .string ⟨#[]⟩, .bool false, .string ⟨#[]⟩, .int .u64 0, .slice none 0 0, .slice none 0 0, .slice none 0 0, .slice none 0 0, .slice none 0 0] 31) := HB.out.gr h2 HD.out.1
  have HT1 : Hid (Two g p w w1) := (Two.refl _ _ _).grown h2
  have HS1 : Hid (StaI w.heap.size w1.heap.size w1 fun W => RowsN W 7 OpenV.c (.slice a n m) xs ∧ ∀ x ∈ xs, x.At W) := hs
  clear hxs hs h1 h2 HA HB HR z0
  have HX : Hid (Calls _ _ _ _ _) := HBB.out w1 HR1.out
  go_wp2_with fail
  refine HX.out.mono ?_
  rintro e w2 ⟨v2, rfl, ⟨ys, hys, ⟨n2, a2, m2, rfl⟩, hs⟩, h1, h2⟩
  have HX2 : Hid (ys.map DoneV.q = B1) := hys
  have HB2 : Hid (Blk w2 p #[.int .i64 8, .int .u64 tx, .int .i64 ty, .string ⟨#[]⟩, .bool false, .string ⟨#[]⟩, .int .u64 0, .slice none 0 0, .slice none 0 0, .slice none 0 0, .slice none 0 0, .slice none 0 0] 31) := HB1.out.gr h2 HD.out.1
  have HT2 : Hid (Two g p w w2) := HT1.out.grown h2
  have HS2 : Hid (StaI w.heap.size w1.heap.size w2 fun W => RowsN W 7 OpenV.c (.slice a n m) xs ∧ ∀ x ∈ xs, x.At W) := HS1.out.grown (Nat.le_refl _) h2 HD.out.2.2.1
  have HS3 : Hid (StaI w1.heap.size w2.heap.size w2 fun W => RowsN W 3 DoneV.c (.slice a2 n2 m2) ys ∧ ∀ x ∈ ys, x.At W) := hs
  have HLO : Hid (p < w1.heap.size) := HB1.out.lt
  have HWS : Hid (w1.heap.size ≤ w2.heap.size) := h2.size
  have HWT : Hid (w.heap.size ≤ w1.heap.size) := HT1.out.size
  clear hys hs h1 h2 HX HBB HB1 HR1 HT1 HS1
  have z10 : w2.cell? ⟨p, 10, none⟩ = some (.slice none 0 0) := HB2.out.cell 10
  have z11 : w2.cell? ⟨p, 11, none⟩ = some (.slice none 0 0) := HB2.out.cell 11
  have f10 := HB2.out.frozen 10
  have f11 := HB2.out.frozen 11
  have HF : Hid (StaI w.heap.size ((w2.setCell ⟨p, 10, none⟩ (.slice a n m)).setCell ⟨p, 11, none⟩ (.slice a2 n2 m2)).heap.size ((w2.setCell ⟨p, 10, none⟩ (.slice a n m)).setCell ⟨p, 11, none⟩ (.slice a2 n2 m2)) fun W => (RowsN W 7 OpenV.c (.slice a n m) xs ∧ ∀ x ∈ xs, x.At W) ∧ RowsN W 3 DoneV.c (.slice a2 n2 m2) ys ∧ ∀ x ∈ ys, x.At W) :=
    (((HS2.out.setCell HD.out.2.2.2 _).setCell HD.out.2.2.2 _).wide (Nat.le_refl _) (by have := HWS.out; simp; omega)).and (((HS3.out.setCell HLO.out _).setCell HLO.out _).wide HWT.out (by simp))
  have HBF : Hid (Blk ((w2.setCell ⟨p, 10, none⟩ (.slice a n m)).setCell ⟨p, 11, none⟩ (.slice a2 n2 m2)) p #[.int .i64 8, .int .u64 tx, .int .i64 ty, .string ⟨#[]⟩, .bool false, .string ⟨#[]⟩, .int .u64 0, .slice none 0 0, .slice none 0 0, .slice none 0 0, .slice a n m, .slice a2 n2 m2] 31) := by show Blk _ _ _ _; have := (HB2.out.set 10 (.slice a n m)).set 11 (.slice a2 n2 m2); simpa using this
  have HTF : Hid (Two g p w ((w2.setCell ⟨p, 10, none⟩ (.slice a n m)).setCell ⟨p, 11, none⟩ (.slice a2 n2 m2))) := (HT2.out.set 10 _).set 11 _
  go_wp2
  go_end0
  exact ⟨rfl, RecV.mk 8 tx ty .empty false .empty 0 none 0 0 [] none 0 0 [] none 0 0 [] a n m xs a2 n2 m2 ys, by show RecQ.mk _ _ _ _ _ _ _ _ _ _ _ _ = _; rw [HX1.out, HX2.out]; rfl, (HF.out.mono fun W hW => ⟨empty_max, empty_max, Rd.nil _, Rd.nil _, fun _ h => (by cases h), RowsN.nil _ _ _, fun _ h => (by cases h), hW.1.1, hW.1.2, hW.2.1, hW.2.2⟩), HBF.out, HTF.out⟩
theorem recRead_any (p g b : Nat) (l : List UInt8) (err : Nat) (K tx ty : Int) (w : World) (h : Rdr w g b l err) (hb : Blk w p #[.int .i64 K, .int .u64 tx, .int .i64 ty, .string ⟨#[]⟩, .bool false, .string ⟨#[]⟩, .int .u64 0, .slice none 0 0, .slice none 0 0, .slice none 0 0, .slice none 0 0, .slice none 0 0] 31) (hpg : p ≠ g) (hpb : p ≠ b) (hK : 0 ≤ K ∧ K ≤ 8) :
    Calls Tryz.prog 36 #[.pointer (some ⟨p, 0, none⟩), .pointer (some ⟨g, 0, none⟩)] w (ReadPost p g w (rbody K (tx, ty) l err).1) := by
  rcases (show K = 1 ∨ K = 2 ∨ K = 3 ∨ (K = 0 ∨ K = 4 ∨ K = 5 ∨ K = 7) ∨ K = 6 ∨ K = 8 by omega) with k | k | k | k | k | k
  · subst k; exact read1 p g b l err tx ty w h hb hpg hpb
  · subst k; exact read2 p g b l err tx ty w h hb hpg hpb
  · subst k; exact read3 p g b l err tx ty w h hb hpg hpb
  · exact read0 p g b l err K tx ty w h hb hpg hpb k
  · subst k; exact read6 p g b l err tx ty w h hb hpg hpb
  · subst k; exact read8 p g b l err tx ty w h hb hpg hpb
end Go.Proofs.YthkmohcdgnldgaaGreat

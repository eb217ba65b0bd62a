/- The log: its masters, laid and read. Own lemmas, no statement. -/
import Derived.Test.YtepfckckplbjjaaWal6
namespace Go.Proofs.Ytepfckckplbjjaa
open Go.ChangeShapes Go.WideShapes Go.ChangeAt Go.RowKit

structure Mst where
  writing : Nat
  life : Nat
  first : Nat
  least : Nat
def Mst.cs (m : Mst) : Array Value := #[.int .u64 (m.writing : Int), .int .u64 (m.life : Int), .int .u64 (m.first : Int), .int .u64 (m.least : Int)]
def dockL : List UInt8 := [100, 111, 99, 107]
/-- A master's bytes. -/
def mBytes (m : Mst) : List UInt8 := join (join (join (join (join (join [] (enc 4)) dockL) (enc m.writing)) (enc m.life)) (enc m.first)) (enc m.least)
theorem mBytes_length (m : Mst) : (mBytes m).length ≤ 60 := by
  unfold mBytes
  simp only [join_length, List.length_nil]
  have h1 := enc_length 4
  have h2 := enc_length m.writing
  have h3 := enc_length m.life
  have h4 := enc_length m.first
  have h5 := enc_length m.least
  have h6 : dockL.length = 4 := rfl
  omega

set_option maxHeartbeats 1000000 in
theorem masterBytes_any (m : Mst) (w : World) (h1 : m.writing < 18446744073709551616) (h2 : m.life < 18446744073709551616) (h3 : m.first < 18446744073709551616) (h4 : m.least < 18446744073709551616) :
    Calls Try.prog 56 #[.agg m.cs] w (Gives w (mBytes m)) := by
  have hW0 : Below w.heap.size w (w.alloc (.cells #[.int .u64 (m.writing : Int), .int .u64 (m.life : Int), .int .u64 (m.first : Int), .int .u64 (m.least : Int)] 72)) := (Below.refl _ _).alloc (Nat.le_refl _) _
  have HB0 : Hid (Blk (w.alloc (.cells #[.int .u64 (m.writing : Int), .int .u64 (m.life : Int), .int .u64 (m.first : Int), .int .u64 (m.least : Int)] 72)) w.heap.size #[.int .u64 (m.writing : Int), .int .u64 (m.life : Int), .int .u64 (m.first : Int), .int .u64 (m.least : Int)] 72) := Blk.new _ _ _
  have HW0 : Hid (Below w.heap.size w (w.alloc (.cells #[.int .u64 (m.writing : Int), .int .u64 (m.life : Int), .int .u64 (m.first : Int), .int .u64 (m.least : Int)] 72))) := hW0
  have H1 : Hid (Calls _ _ _ _ _) := text_any none 0 0 [] ⟨#[100, 111, 99, 107]⟩ (w.alloc (.cells #[.int .u64 (m.writing : Int), .int .u64 (m.life : Int), .int .u64 (m.first : Int), .int .u64 (m.least : Int)] 72)) (Src.nil _) (by simp; decide)
  clear hW0
  unfold Mst.cs
  go_enter Try.func56, Try.ntmps56
  go_wp2_with fail
  refine Calls.mono H1.out ?_
  rintro e w1 ⟨g1, c1, rfl, ho1, hb1⟩
  have hj1 : join (join [] (enc (ByteArray.size ⟨#[100, 111, 99, 107]⟩))) (ByteArray.data ⟨#[100, 111, 99, 107]⟩).toList = join (join [] (enc 4)) dockL := rfl
  rw [hj1] at ho1
  have HB1 : Hid (Blk w1 w.heap.size #[.int .u64 (m.writing : Int), .int .u64 (m.life : Int), .int .u64 (m.first : Int), .int .u64 (m.least : Int)] 72) := HB0.out.of (hb1.block _ HB0.out.lt)
  have HW1 : Hid (Below w.heap.size w w1) := HW0.out.trans (hb1.mono HW0.out.size)
  have y0 : w1.cell? ⟨w.heap.size, 0, none⟩ = some (.int .u64 (m.writing : Int)) := HB1.out.cell 0
  have l1 := enc_length 4
  have l0 : dockL.length = 4 := rfl
  have H2 : Hid (Calls _ _ _ _ _) := put_any _ _ _ _ m.writing w1 ho1.src h1 (by simp only [join_length, List.length_nil]; omega)
  clear ho1 hb1 H1 hj1
  go_wp2_with fail
  refine Calls.mono H2.out ?_
  rintro e w2 ⟨g2, c2, rfl, ho2, hb2⟩
  have HB2 : Hid (Blk w2 w.heap.size #[.int .u64 (m.writing : Int), .int .u64 (m.life : Int), .int .u64 (m.first : Int), .int .u64 (m.least : Int)] 72) := HB1.out.of (hb2.block _ HB1.out.lt)
  have HW2 : Hid (Below w.heap.size w w2) := HW1.out.trans (hb2.mono HW1.out.size)
  have y1 : w2.cell? ⟨w.heap.size, 1, none⟩ = some (.int .u64 (m.life : Int)) := HB2.out.cell 1
  have l2 := enc_length m.writing
  have H3 : Hid (Calls _ _ _ _ _) := put_any _ _ _ _ m.life w2 ho2.src h2 (by simp only [join_length, List.length_nil]; omega)
  clear ho2 hb2 H2 y0
  go_wp2_with fail
  refine Calls.mono H3.out ?_
  rintro e w3 ⟨g3, c3, rfl, ho3, hb3⟩
  have HB3 : Hid (Blk w3 w.heap.size #[.int .u64 (m.writing : Int), .int .u64 (m.life : Int), .int .u64 (m.first : Int), .int .u64 (m.least : Int)] 72) := HB2.out.of (hb3.block _ HB2.out.lt)
  have HW3 : Hid (Below w.heap.size w w3) := HW2.out.trans (hb3.mono HW2.out.size)
  have y2 : w3.cell? ⟨w.heap.size, 2, none⟩ = some (.int .u64 (m.first : Int)) := HB3.out.cell 2
  have l3 := enc_length m.life
  have H4 : Hid (Calls _ _ _ _ _) := put_any _ _ _ _ m.first w3 ho3.src h3 (by simp only [join_length, List.length_nil]; omega)
  clear ho3 hb3 H3 y1
  go_wp2_with fail
  refine Calls.mono H4.out ?_
  rintro e w4 ⟨g4, c4, rfl, ho4, hb4⟩
  have HB4 : Hid (Blk w4 w.heap.size #[.int .u64 (m.writing : Int), .int .u64 (m.life : Int), .int .u64 (m.first : Int), .int .u64 (m.least : Int)] 72) := HB3.out.of (hb4.block _ HB3.out.lt)
  have HW4 : Hid (Below w.heap.size w w4) := HW3.out.trans (hb4.mono HW3.out.size)
  have y3 : w4.cell? ⟨w.heap.size, 3, none⟩ = some (.int .u64 (m.least : Int)) := HB4.out.cell 3
  have l4 := enc_length m.first
  have H5 : Hid (Calls _ _ _ _ _) := put_any _ _ _ _ m.least w4 ho4.src h4 (by simp only [join_length, List.length_nil]; omega)
  clear ho4 hb4 H4 y2
  go_wp2_with fail
  refine Calls.mono H5.out ?_
  rintro e w5 ⟨g5, c5, rfl, ho5, hb5⟩
  have K : Hid (Gives w (mBytes m) (.returned (.slice (some ⟨g5, 0, none⟩) _ c5)) w5) := ⟨g5, c5, rfl, ho5.mono HW4.out.size, HW4.out.trans (hb5.mono HW4.out.size)⟩
  clear ho5 hb5 H5 y3
  go_wp2_with fail
  go_ret
  exact K.out

def mr0 (b : List UInt8) := rtext b 0 4
def mr1 (b : List UInt8) := rnum (mr0 b).2.1 (mr0 b).2.2 18446744073709551615
def mr2 (b : List UInt8) := rnum (mr1 b).2.1 (mr1 b).2.2 1099511627776
def mr3 (b : List UInt8) := rnum (mr2 b).2.1 (mr2 b).2.2 4611686018427387903
def mr4 (b : List UInt8) := rnum (mr3 b).2.1 (mr3 b).2.2 1099511627776
/-- What a master's bytes say. -/
def readM (b : List UInt8) (which : Nat) : Option Mst :=
  if (mr4 b).2.2 = 0 ∧ (mr0 b).1 = dockL ∧ (mr1 b).1 ≠ 0 ∧ (mr1 b).1 % 2 = which then some ⟨(mr1 b).1, (mr2 b).1, (mr3 b).1, (mr4 b).1⟩ else none
def mZ : Array Value := #[.int .u64 0, .int .u64 0, .int .u64 0, .int .u64 0]
def mO : Option Mst → Value
  | none => .agg mZ
  | some m => .agg m.cs

set_option maxRecDepth 10000 in
set_option maxHeartbeats 4000000 in
theorem readMaster_any (ao : Option Addr) (m c : Nat) (l : List UInt8) (which : Nat) (w : World) (hs : Src w (.slice ao m c) l) (hl : l.length < 900000000000) (hn : which < 2) :
    Calls Try.prog 55 #[.slice ao m c, .int .i64 (which : Int)] w fun e w' => e = .returned (.tuple #[mO (readM l which), .bool (readM l which).isSome]) ∧ Below w.heap.size w w' := by
  have hW0 : Below w.heap.size w (w.alloc (.cells mZ 72)) := (Below.refl _ _).alloc (Nat.le_refl _) _
  have H1 : Hid (Calls _ _ _ _ _) := read_any ao m c l (w.alloc (.cells mZ 72)) (hs.below hW0) hl
  clear hW0 hs
  unfold mZ at H1
  go_enter Try.func55, Try.ntmps55
  go_wp2_with fail
  refine Calls.mono H1.out ?_
  rintro e w1 ⟨g, b, rfl, hR1, hb1, hg1, hbb1⟩
  have HS1 : Hid (Below (w.alloc (.cells mZ 72)).heap.size (w.alloc (.cells mZ 72)) w1 ∧ (w.alloc (.cells mZ 72)).heap.size ≤ g ∧ (w.alloc (.cells mZ 72)).heap.size ≤ b) := ⟨hb1, hg1, hbb1⟩
  have H2 : Hid (Calls _ _ _ _ _) := text_read g b l 0 4 w1 hR1 (by decide)
  clear hR1 hb1 hg1 hbb1 H1
  go_wp2_with fail
  refine Calls.mono H2.out ?_
  rintro e w2 ⟨rfl, hR2, hc2⟩
  have HX0 : Hid (rtext l 0 (4 : Int).toNat = mr0 l) := rfl
  rw [HX0.out] at hR2 ⊢
  have hP3 : RP w (w2.alloc (.cells #[.int .u64 0, .int .u64 0, .int .u64 0, .int .u64 0] 72)) g b w2.heap.size (mr0 l).2.1 (mr0 l).2.2 #[.int .u64 0, .int .u64 0, .int .u64 0, .int .u64 0] 72 mZ := RP.start rfl HS1.out.1 HS1.out.2.1 HS1.out.2.2 hR2 hc2
  have HP3 : Hid (RP w _ g b w2.heap.size (mr0 l).2.1 (mr0 l).2.2 #[.int .u64 0, .int .u64 0, .int .u64 0, .int .u64 0] 72 mZ) := hP3
  have H3 : Hid (Calls _ _ _ _ _) := num_any g b _ _ 18446744073709551615 _ hP3.r
  clear hR2 hc2 H2 HS1 HX0 hP3
  go_wp2_with fail
  refine Calls.mono H3.out ?_
  rintro e w4 ⟨rfl, hR0, hc0⟩
  have HX : Hid (rnum (mr0 l).2.1 (mr0 l).2.2 18446744073709551615 = mr1 l) := rfl
  rw [HX.out]
  have hP0 : RP w w4 g b w2.heap.size (mr1 l).2.1 (mr1 l).2.2 #[.int .u64 0, .int .u64 0, .int .u64 0, .int .u64 0] 72 mZ := HP3.out.turn hR0 hc0
  have hQ0 : RP w (w4.setCell ⟨w2.heap.size, 0, none⟩ (.int .u64 ((mr1 l).1 : Int))) g b w2.heap.size (mr1 l).2.1 (mr1 l).2.2 #[.int .u64 ((mr1 l).1 : Int), .int .u64 0, .int .u64 0, .int .u64 0] 72 mZ := hP0.set 0 _
  have x0 : w4.cell? ⟨w2.heap.size, 0, none⟩ = some (.int .u64 0) := hP0.p.cell 0
  have f0 := hP0.p.frozen 0
  have HQ0 : Hid (RP w _ g b w2.heap.size (mr1 l).2.1 (mr1 l).2.2 _ 72 mZ) := hQ0
  have H4 : Hid (Calls _ _ _ _ _) := num_any g b _ _ 1099511627776 _ hQ0.r
  clear hR0 hc0 H3 HX HP3 hP0 hQ0
  go_wp2_with fail
  clear x0 f0
  refine Calls.mono H4.out ?_
  rintro e w6 ⟨rfl, hR1, hc1⟩
  have HX : Hid (rnum (mr1 l).2.1 (mr1 l).2.2 1099511627776 = mr2 l) := rfl
  rw [HX.out]
  have hP1 : RP w w6 g b w2.heap.size (mr2 l).2.1 (mr2 l).2.2 #[.int .u64 ((mr1 l).1 : Int), .int .u64 0, .int .u64 0, .int .u64 0] 72 mZ := HQ0.out.turn hR1 hc1
  have hQ1 : RP w (w6.setCell ⟨w2.heap.size, 1, none⟩ (.int .u64 ((mr2 l).1 : Int))) g b w2.heap.size (mr2 l).2.1 (mr2 l).2.2 #[.int .u64 ((mr1 l).1 : Int), .int .u64 ((mr2 l).1 : Int), .int .u64 0, .int .u64 0] 72 mZ := hP1.set 1 _
  have x1 : w6.cell? ⟨w2.heap.size, 1, none⟩ = some (.int .u64 0) := hP1.p.cell 1
  have f1 := hP1.p.frozen 1
  have HQ1 : Hid (RP w _ g b w2.heap.size (mr2 l).2.1 (mr2 l).2.2 _ 72 mZ) := hQ1
  have H5 : Hid (Calls _ _ _ _ _) := num_any g b _ _ 4611686018427387903 _ hQ1.r
  clear hR1 hc1 H4 HX HQ0 hP1 hQ1
  go_wp2_with fail
  clear x1 f1
  refine Calls.mono H5.out ?_
  rintro e w8 ⟨rfl, hR2, hc2⟩
  have HX : Hid (rnum (mr2 l).2.1 (mr2 l).2.2 4611686018427387903 = mr3 l) := rfl
  rw [HX.out]
  have hP2 : RP w w8 g b w2.heap.size (mr3 l).2.1 (mr3 l).2.2 #[.int .u64 ((mr1 l).1 : Int), .int .u64 ((mr2 l).1 : Int), .int .u64 0, .int .u64 0] 72 mZ := HQ1.out.turn hR2 hc2
  have hQ2 : RP w (w8.setCell ⟨w2.heap.size, 2, none⟩ (.int .u64 ((mr3 l).1 : Int))) g b w2.heap.size (mr3 l).2.1 (mr3 l).2.2 #[.int .u64 ((mr1 l).1 : Int), .int .u64 ((mr2 l).1 : Int), .int .u64 ((mr3 l).1 : Int), .int .u64 0] 72 mZ := hP2.set 2 _
  have x2 : w8.cell? ⟨w2.heap.size, 2, none⟩ = some (.int .u64 0) := hP2.p.cell 2
  have f2 := hP2.p.frozen 2
  have HQ2 : Hid (RP w _ g b w2.heap.size (mr3 l).2.1 (mr3 l).2.2 _ 72 mZ) := hQ2
  have H6 : Hid (Calls _ _ _ _ _) := num_any g b _ _ 1099511627776 _ hQ2.r
  clear hR2 hc2 H5 HX HQ1 hP2 hQ2
  go_wp2_with fail
  clear x2 f2
  refine Calls.mono H6.out ?_
  rintro e w10 ⟨rfl, hR3, hc3⟩
  have HX : Hid (rnum (mr3 l).2.1 (mr3 l).2.2 1099511627776 = mr4 l) := rfl
  rw [HX.out]
  have hP3 : RP w w10 g b w2.heap.size (mr4 l).2.1 (mr4 l).2.2 #[.int .u64 ((mr1 l).1 : Int), .int .u64 ((mr2 l).1 : Int), .int .u64 ((mr3 l).1 : Int), .int .u64 0] 72 mZ := HQ2.out.turn hR3 hc3
  have hQ3 : RP w (w10.setCell ⟨w2.heap.size, 3, none⟩ (.int .u64 ((mr4 l).1 : Int))) g b w2.heap.size (mr4 l).2.1 (mr4 l).2.2 #[.int .u64 ((mr1 l).1 : Int), .int .u64 ((mr2 l).1 : Int), .int .u64 ((mr3 l).1 : Int), .int .u64 ((mr4 l).1 : Int)] 72 mZ := hP3.set 3 _
  have x3 : w10.cell? ⟨w2.heap.size, 3, none⟩ = some (.int .u64 0) := hP3.p.cell 3
  have f3 := hP3.p.frozen 3
  have HQ3 : Hid (RP w _ g b w2.heap.size (mr4 l).2.1 (mr4 l).2.2 _ 72 mZ) := hQ3
  have H9 : Hid (Calls _ _ _ _ _) := err_any g b _ _ _ hQ3.r
  clear hR3 hc3 H6 HX HQ2 hP3 hQ3
  go_wp2_with fail
  clear x3 f3
  refine Calls.mono H9.out ?_
  rintro e w' ⟨rfl, hw⟩; rw [hw]; clear hw w' H9
  generalize hW9 : w10.setCell ⟨w2.heap.size, 3, none⟩ (.int .u64 ((mr4 l).1 : Int)) = W9 at *
  clear hW9
  have y0 : W9.cell? ⟨w2.heap.size, 0, none⟩ = some (.int .u64 ((mr1 l).1 : Int)) := HQ3.out.p.cell 0
  have y1 : W9.cell? ⟨w2.heap.size, 1, none⟩ = some (.int .u64 ((mr2 l).1 : Int)) := HQ3.out.p.cell 1
  have y2 : W9.cell? ⟨w2.heap.size, 2, none⟩ = some (.int .u64 ((mr3 l).1 : Int)) := HQ3.out.p.cell 2
  have y3 : W9.cell? ⟨w2.heap.size, 3, none⟩ = some (.int .u64 ((mr4 l).1 : Int)) := HQ3.out.p.cell 3
  have z0 : W9.cell? ⟨w.heap.size, 0, none⟩ = some (.int .u64 0) := HQ3.out.z.cell 0
  have z1 : W9.cell? ⟨w.heap.size, 1, none⟩ = some (.int .u64 0) := HQ3.out.z.cell 1
  have z2 : W9.cell? ⟨w.heap.size, 2, none⟩ = some (.int .u64 0) := HQ3.out.z.cell 2
  have z3 : W9.cell? ⟨w.heap.size, 3, none⟩ = some (.int .u64 0) := HQ3.out.z.cell 3
  have g0 := HQ3.out.z.frozen 0
  have g1 := HQ3.out.z.frozen 1
  have g2 := HQ3.out.z.frozen 2
  have g3 := HQ3.out.z.frozen 3
  have HB9 : Hid (∀ a0 a1 a2 a3 : Value, Blk ((((W9.setCell ⟨w.heap.size, 0, none⟩ a0).setCell ⟨w.heap.size, 1, none⟩ a1).setCell ⟨w.heap.size, 2, none⟩ a2).setCell ⟨w.heap.size, 3, none⟩ a3) w.heap.size #[a0, a1, a2, a3] 72 ∧ Below w.heap.size w ((((W9.setCell ⟨w.heap.size, 0, none⟩ a0).setCell ⟨w.heap.size, 1, none⟩ a1).setCell ⟨w.heap.size, 2, none⟩ a2).setCell ⟨w.heap.size, 3, none⟩ a3)) := fun a0 a1 a2 a3 =>
    ⟨by simpa [mZ] using (((HQ3.out.z.set 0 a0).set 1 a1).set 2 a2).set 3 a3, (((HQ3.out.bel.setCell (Nat.le_refl _) _).setCell (Nat.le_refl _) _).setCell (Nat.le_refl _) _).setCell (Nat.le_refl _) _⟩
  clear HQ3
  by_cases hE : (mr4 l).2.2 = 0
  · rw [hE]
    by_cases hT : (mr0 l).1 = dockL
    · rw [hT]
      unfold dockL
      by_cases hA : (mr1 l).1 = 0
      · have hA' : (((mr1 l).1 : Int) == 0) = true := by rw [hA]; rfl
        have q1 : readM l which = none := by unfold readM; rw [if_neg (fun h => h.2.2.1 hA)]
        have Q1 : Hid (readM l which = none) := q1
        clear q1
        go_wp2_with fail
        refine bodyPost_ret (results_pair (ty := 72) rfl _ _ w.heap.size 72 mZ (.bool false) _ rfl rfl (HB9.out _ _ _ _).1 Try.underlying72 rfl (by kernel_rfl)) rfl ?_
        exact ⟨by rw [Q1.out]; rfl, (HB9.out _ _ _ _).2⟩
      · have hA' : (((mr1 l).1 : Int) == 0) = false := by simp; omega
        have hwr : IntKind.u64.wrap (which : Int) = (which : Int) := by rw [IntKind.wrap_u64]; omega
        by_cases hM : (mr1 l).1 % 2 = which
        · have hM' : (((mr1 l).1 : Int) % 2 != (which : Int)) = false := by simp; omega
          have q1 : readM l which = some ⟨(mr1 l).1, (mr2 l).1, (mr3 l).1, (mr4 l).1⟩ := by unfold readM; rw [if_pos ⟨hE, hT, hA, hM⟩]
          have Q1 : Hid (readM l which = some ⟨(mr1 l).1, (mr2 l).1, (mr3 l).1, (mr4 l).1⟩) := q1
          clear q1
          go_wp2_with fail
          refine bodyPost_ret (results_pair (ty := 72) rfl _ _ w.heap.size 72 #[.int .u64 ((mr1 l).1 : Int), .int .u64 ((mr2 l).1 : Int), .int .u64 ((mr3 l).1 : Int), .int .u64 ((mr4 l).1 : Int)] (.bool true) _ rfl rfl (HB9.out _ _ _ _).1 Try.underlying72 rfl (by kernel_rfl)) rfl ?_
          exact ⟨by rw [Q1.out]; rfl, (HB9.out _ _ _ _).2⟩
        · have hM' : (((mr1 l).1 : Int) % 2 != (which : Int)) = true := by simp; omega
          have q1 : readM l which = none := by unfold readM; rw [if_neg (fun h => hM h.2.2.2)]
          have Q1 : Hid (readM l which = none) := q1
          clear q1
          go_wp2_with fail
          refine bodyPost_ret (results_pair (ty := 72) rfl _ _ w.heap.size 72 mZ (.bool false) _ rfl rfl (HB9.out _ _ _ _).1 Try.underlying72 rfl (by kernel_rfl)) rfl ?_
          exact ⟨by rw [Q1.out]; rfl, (HB9.out _ _ _ _).2⟩
    · have hT' : ¬ (⟨(mr0 l).1.toArray⟩ : ByteArray) = ⟨#[100, 111, 99, 107]⟩ := by
        intro h
        have := congrArg (fun x => x.data.toList) h
        exact hT (by unfold dockL; simpa using this)
      have q1 : readM l which = none := by unfold readM; rw [if_neg (fun h => hT h.2.1)]
      have Q1 : Hid (readM l which = none) := q1
      clear q1
      go_wp2_with fail
      refine bodyPost_ret (results_pair (ty := 72) rfl _ _ w.heap.size 72 mZ (.bool false) _ rfl rfl (HB9.out _ _ _ _).1 Try.underlying72 rfl (by kernel_rfl)) rfl ?_
      exact ⟨by rw [Q1.out]; rfl, (HB9.out _ _ _ _).2⟩
  · have hE' : (((mr4 l).2.2 : Int) != 0) = true := by simp; omega
    have q1 : readM l which = none := by unfold readM; rw [if_neg (fun h => hE h.1)]
    have Q1 : Hid (readM l which = none) := q1
    clear q1
    go_wp2_with fail
    refine bodyPost_ret (results_pair (ty := 72) rfl _ _ w.heap.size 72 mZ (.bool false) _ rfl rfl (HB9.out _ _ _ _).1 Try.underlying72 rfl (by kernel_rfl)) rfl ?_
    exact ⟨by rw [Q1.out]; rfl, (HB9.out _ _ _ _).2⟩
end Go.Proofs.Ytepfckckplbjjaa

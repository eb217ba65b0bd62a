/- The log: a sector's bytes, read. Own lemmas, no statement. -/
import Derived.Test.YtepfckckplbjjaaWal2
namespace Go.Proofs.Ytepfckckplbjjaa
open Go.ChangeShapes Go.WideShapes Go.ChangeAt Go.RowKit

theorem results_pair {fn : Func} {p u : Tmp} {P : Program} {ty : TypeId} (h : fn.results = #[.cell p ty, .tmp u]) (tmps : Array Value) (w : World) (r : Nat) (t : TypeId) (cs : Array Value) (x : Value) (d : TypeDesc) (hp : tmps.getD p undef = .pointer (some ⟨r, 0, none⟩)) (hu' : tmps.getD u undef = x) (hg : Blk w r cs t)
    (hu : P.underlying ty = some d) (hd : (match d with | .struct _ | .array _ _ => true | _ => false) = true) (hi : (P.info? ty).map (·.size) = some cs.size) : (results fn tmps).run P w = .ok (.tuple #[.agg cs, x]) w := by
  rw [results_cell_tmp h, hp, hu']
  simp [asAddr, run_loadVar_row w r t ty cs (0, 0) d hg hu hd hi]

structure Pc where
  life : Nat
  last : Bool
  text : List UInt8
def pc1 (b : List UInt8) := rnum b 0 18446744073709551615
def pc2 (b : List UInt8) := rnum (pc1 b).2.1 (pc1 b).2.2 1099511627776
def pc3 (b : List UInt8) := rnum (pc2 b).2.1 (pc2 b).2.2 1
def pc4 (b : List UInt8) := rtext (pc3 b).2.1 (pc3 b).2.2 480
/-- The sector of a number whose bytes these are. -/
def readPc (b : List UInt8) (n : Nat) : Option Pc :=
  if (pc4 b).2.2 = 0 ∧ (pc1 b).1 = n + 1 ∧ ((pc3 b).1 = 1 ∨ 480 ≤ (pc4 b).1.length) then some ⟨(pc2 b).1, (pc3 b).1 == 1, (pc4 b).1⟩ else none
def pcZ : Array Value := #[.int .u64 0, .int .u64 0, .bool false, .string ⟨#[]⟩]
def pcO (n : Nat) : Option Pc → Value
  | none => .agg pcZ
  | some p => pcV n p.life p.last p.text

theorem Rdr.chg {S : Nat → Prop} {w w' : World} {g b : Nat} {l : List UInt8} {err : Nat} (h : Rdr w g b l err) (k : Chg S w w') (hg : ¬ S g) (hb : ¬ S b) : Rdr w' g b l err := h.kept k.size (k.block g h.lt hg) (k.block b h.2.1 hb)

/-- While a sector is read: the reader, the result, the sector so far. -/
structure RP (w wx : World) (g b pb : Nat) (L : List UInt8) (E : Nat) (cs : Array Value) (T : TypeId) (z : Array Value) : Prop where
  r : Rdr wx g b L E
  z : Blk wx w.heap.size z T
  p : Blk wx pb cs T
  bel : Below w.heap.size w wx
  lo : w.heap.size < g ∧ w.heap.size < b ∧ w.heap.size < pb ∧ g ≠ pb ∧ b ≠ pb
theorem RP.turn {w wx wy : World} {g b pb : Nat} {L L2 : List UInt8} {E E2 : Nat} {cs : Array Value} {T : TypeId} {z : Array Value} (h : RP w wx g b pb L E cs T z) (hr : Rdr wy g b L2 E2) (hc : wx.grownBy wy (some g)) : RP w wy g b pb L2 E2 cs T z := by
  have hk : Chg (fun k => k = g) wx wy := (Chg.refl _ _).grown hc (fun k e _ => by cases e; rfl)
  have hlo := h.lo
  refine ⟨hr, h.z.chg hk (fun e => ?_), h.p.chg hk (fun e => hlo.2.2.2.1 e.symm), h.bel.trans (hk.below h.bel.size (fun k e => ?_)), hlo⟩
  · have : w.heap.size = g := e
    omega
  · have : k = g := e
    omega
theorem RP.set {w wx : World} {g b pb : Nat} {L : List UInt8} {E : Nat} {cs : Array Value} {T : TypeId} {z : Array Value} (h : RP w wx g b pb L E cs T z) (i : Nat) (v : Value) : RP w (wx.setCell ⟨pb, i, none⟩ v) g b pb L E (cs.setIfInBounds i v) T z := by
  have hlo := h.lo
  have hk : Chg (fun k => k = pb) wx (wx.setCell ⟨pb, i, none⟩ v) := (Chg.refl (fun k => k = pb) wx).setCell ⟨pb, i, none⟩ (fun _ => rfl) v
  exact ⟨h.r.chg hk hlo.2.2.2.1 hlo.2.2.2.2, h.z.setOther _ _ (by omega), h.p.set _ _, h.bel.trans (hk.below h.bel.size (fun k e => by have : k = pb := e; omega)), hlo⟩
theorem RP.start {w W0 w1 w2 : World} {g b : Nat} {L2 : List UInt8} {E2 : Nat} {T : TypeId} {z cs : Array Value} (h0 : W0 = w.alloc (.cells z T)) (hb : Below W0.heap.size W0 w1) (hg : W0.heap.size ≤ g) (hbb : W0.heap.size ≤ b) (hr : Rdr w2 g b L2 E2) (hc : w1.grownBy w2 (some g)) :
    RP w (w2.alloc (.cells cs T)) g b w2.heap.size L2 E2 cs T z := by
  subst h0
  have hs0 : (w.alloc (.cells z T)).heap.size = w.heap.size + 1 := by simp
  have hk : Chg (fun k => k = g) w1 w2 := (Chg.refl _ _).grown hc (fun k e _ => by cases e; rfl)
  have b0 : Blk (w.alloc (.cells z T)) w.heap.size z T := Blk.new _ _ _
  have b1 : Blk w1 w.heap.size z T := b0.of (hb.block _ b0.lt)
  have b2 : Blk w2 w.heap.size z T := b1.chg hk (fun e => by have : w.heap.size = g := e; omega)
  have e1 : Below w.heap.size w w1 := ((Below.refl w.heap.size w).alloc (Nat.le_refl _) (.cells z T)).trans (hb.mono (by omega))
  have e2 : Below w.heap.size w w2 := e1.trans (hk.below e1.size (fun k e => by have : k = g := e; omega))
  have l1 := hr.lt
  have l2 := hr.2.1
  have l3 := b2.lt
  exact ⟨hr.below ((Below.refl _ _).alloc (Nat.le_refl _) _), b2.alloc _, Blk.new _ _ _, e2.alloc e2.size _, by omega, by omega, by omega, by omega, by omega⟩

set_option maxRecDepth 10000 in
set_option maxHeartbeats 4000000 in
theorem readPiece_any (ao : Option Addr) (m c : Nat) (l : List UInt8) (n : Nat) (w : World) (hs : Src w (.slice ao m c) l) (hl : l.length < 900000000000) (hn : n < 9223372036854775808) :
    Calls Try.prog 62 #[.slice ao m c, .int .u64 (n : Int)] w fun e w' => e = .returned (.tuple #[pcO n (readPc l n), .bool (readPc l n).isSome]) ∧ Below w.heap.size w w' := by
  have hW0 : Below w.heap.size w (w.alloc (.cells pcZ 83)) := (Below.refl _ _).alloc (Nat.le_refl _) _
  have H1 : Hid (Calls _ _ _ _ _) := read_any ao m c l (w.alloc (.cells pcZ 83)) (hs.below hW0) hl
  clear hW0 hs
  unfold pcZ at H1
  go_enter Try.func62, Try.ntmps62
  go_wp2_with fail
  refine Calls.mono H1.out ?_
  rintro e w1 ⟨g, b, rfl, hR1, hb1, hg1, hbb1⟩
  have HS1 : Hid (Rdr w1 g b l 0 ∧ Below (w.alloc (.cells pcZ 83)).heap.size (w.alloc (.cells pcZ 83)) w1 ∧ (w.alloc (.cells pcZ 83)).heap.size ≤ g ∧ (w.alloc (.cells pcZ 83)).heap.size ≤ b) := ⟨hR1, hb1, hg1, hbb1⟩
  have H2 : Hid (Calls _ _ _ _ _) := num_any g b l 0 18446744073709551615 w1 hR1
  clear hR1 hb1 hg1 hbb1 H1
  go_wp2_with fail
  refine Calls.mono H2.out ?_
  rintro e w2 ⟨rfl, hR2, hc2⟩
  have HP3 : Hid (RP w (w2.alloc (.cells #[.int .u64 (n : Int), .int .u64 0, .bool false, .string ⟨#[]⟩] 83)) g b w2.heap.size (pc1 l).2.1 (pc1 l).2.2 #[.int .u64 (n : Int), .int .u64 0, .bool false, .string ⟨#[]⟩] 83 pcZ) := RP.start rfl HS1.out.2.1 HS1.out.2.2.1 HS1.out.2.2.2 hR2 hc2
  have hA1 : (pc1 l).1 < 18446744073709551616 := (rnum_facts l 0 18446744073709551615).1
  have HX1 : Hid (rnum l 0 18446744073709551615 = pc1 l) := rfl
  rw [HX1.out]
  have H3 : Hid (Calls _ _ _ _ _) := num_any g b _ _ 1099511627776 _ HP3.out.r
  clear hR2 hc2 H2 HS1 HX1
  go_wp2_with fail
  refine Calls.mono H3.out ?_
  rintro e w4 ⟨rfl, hR4, hc4⟩
  have HX2 : Hid (rnum (pc1 l).2.1 (pc1 l).2.2 1099511627776 = pc2 l) := rfl
  rw [HX2.out]
  have hP4 : RP w w4 g b w2.heap.size (pc2 l).2.1 (pc2 l).2.2 #[.int .u64 (n : Int), .int .u64 0, .bool false, .string ⟨#[]⟩] 83 pcZ := HP3.out.turn hR4 hc4
  have hP5 : RP w (w4.setCell ⟨w2.heap.size, 1, none⟩ (.int .u64 ((pc2 l).1 : Int))) g b w2.heap.size (pc2 l).2.1 (pc2 l).2.2 #[.int .u64 (n : Int), .int .u64 ((pc2 l).1 : Int), .bool false, .string ⟨#[]⟩] 83 pcZ := hP4.set 1 _
  have x1 : w4.cell? ⟨w2.heap.size, 1, none⟩ = some (.int .u64 0) := hP4.p.cell 1
  have f1 := hP4.p.frozen 1
  have HP5 : Hid (RP w _ g b w2.heap.size (pc2 l).2.1 (pc2 l).2.2 _ 83 pcZ) := hP5
  have H5 : Hid (Calls _ _ _ _ _) := num_any g b _ _ 1 _ hP5.r
  clear hR4 hc4 H3 HX2 HP3 hP4 hP5
  go_wp2_with fail
  refine Calls.mono H5.out ?_
  rintro e w6 ⟨rfl, hR6, hc6⟩
  have HX3 : Hid (rnum (pc2 l).2.1 (pc2 l).2.2 1 = pc3 l) := rfl
  rw [HX3.out]
  have hP6 : RP w w6 g b w2.heap.size (pc3 l).2.1 (pc3 l).2.2 #[.int .u64 (n : Int), .int .u64 ((pc2 l).1 : Int), .bool false, .string ⟨#[]⟩] 83 pcZ := HP5.out.turn hR6 hc6
  have hP7 : RP w (w6.setCell ⟨w2.heap.size, 2, none⟩ (.bool (((pc3 l).1 : Int) == 1))) g b w2.heap.size (pc3 l).2.1 (pc3 l).2.2 #[.int .u64 (n : Int), .int .u64 ((pc2 l).1 : Int), .bool (((pc3 l).1 : Int) == 1), .string ⟨#[]⟩] 83 pcZ := hP6.set 2 _
  have x2 : w6.cell? ⟨w2.heap.size, 2, none⟩ = some (.bool false) := hP6.p.cell 2
  have f2 := hP6.p.frozen 2
  have HP7 : Hid (RP w _ g b w2.heap.size (pc3 l).2.1 (pc3 l).2.2 _ 83 pcZ) := hP7
  have H7 : Hid (Calls _ _ _ _ _) := text_read g b _ _ 480 _ hP7.r (by decide)
  clear hR6 hc6 H5 HX3 HP5 hP6 hP7 x1 f1
  go_wp2_with fail
  refine Calls.mono H7.out ?_
  rintro e w8 ⟨rfl, hR8, hc8⟩
  have HX4 : Hid (rtext (pc3 l).2.1 (pc3 l).2.2 (480 : Int).toNat = pc4 l) := rfl
  rw [HX4.out] at hR8 ⊢
  have hP8 : RP w w8 g b w2.heap.size (pc4 l).2.1 (pc4 l).2.2 #[.int .u64 (n : Int), .int .u64 ((pc2 l).1 : Int), .bool (((pc3 l).1 : Int) == 1), .string ⟨#[]⟩] 83 pcZ := HP7.out.turn hR8 hc8
  have hP9 : RP w (w8.setCell ⟨w2.heap.size, 3, none⟩ (.string ⟨(pc4 l).1.toArray⟩)) g b w2.heap.size (pc4 l).2.1 (pc4 l).2.2 #[.int .u64 (n : Int), .int .u64 ((pc2 l).1 : Int), .bool (((pc3 l).1 : Int) == 1), .string ⟨(pc4 l).1.toArray⟩] 83 pcZ := hP8.set 3 _
  have x3 : w8.cell? ⟨w2.heap.size, 3, none⟩ = some (.string ⟨#[]⟩) := hP8.p.cell 3
  have f3 := hP8.p.frozen 3
  have HP9 : Hid (RP w _ g b w2.heap.size (pc4 l).2.1 (pc4 l).2.2 _ 83 pcZ) := hP9
  have H9 : Hid (Calls _ _ _ _ _) := err_any g b _ _ _ hP9.r
  clear hR8 hc8 H7 HX4 HP7 hP8 hP9 x2 f2
  go_wp2_with fail
  refine Calls.mono H9.out ?_
  rintro e w' ⟨rfl, hw⟩; rw [hw]; clear hw w' H9 x3 f3
  generalize hW9 : w8.setCell ⟨w2.heap.size, 3, none⟩ (.string ⟨(pc4 l).1.toArray⟩) = W9 at *
  clear hW9
  have y0 : W9.cell? ⟨w2.heap.size, 0, none⟩ = some (.int .u64 (n : Int)) := HP9.out.p.cell 0
  have y1 : W9.cell? ⟨w2.heap.size, 1, none⟩ = some (.int .u64 ((pc2 l).1 : Int)) := HP9.out.p.cell 1
  have y2 : W9.cell? ⟨w2.heap.size, 2, none⟩ = some (.bool (((pc3 l).1 : Int) == 1)) := HP9.out.p.cell 2
  have y3 : W9.cell? ⟨w2.heap.size, 3, none⟩ = some (.string ⟨(pc4 l).1.toArray⟩) := HP9.out.p.cell 3
  have z0 : W9.cell? ⟨w.heap.size, 0, none⟩ = some (.int .u64 0) := HP9.out.z.cell 0
  have z1 : W9.cell? ⟨w.heap.size, 1, none⟩ = some (.int .u64 0) := HP9.out.z.cell 1
  have z2 : W9.cell? ⟨w.heap.size, 2, none⟩ = some (.bool false) := HP9.out.z.cell 2
  have z3 : W9.cell? ⟨w.heap.size, 3, none⟩ = some (.string ⟨#[]⟩) := HP9.out.z.cell 3
  have f0 := HP9.out.z.frozen 0
  have f1 := HP9.out.z.frozen 1
  have f2 := HP9.out.z.frozen 2
  have f3 := HP9.out.z.frozen 3
  have HB9 : Hid (∀ a0 a1 a2 a3 : Value, Blk ((((W9.setCell ⟨w.heap.size, 0, none⟩ a0).setCell ⟨w.heap.size, 1, none⟩ a1).setCell ⟨w.heap.size, 2, none⟩ a2).setCell ⟨w.heap.size, 3, none⟩ a3) w.heap.size #[a0, a1, a2, a3] 83 ∧ Below w.heap.size w ((((W9.setCell ⟨w.heap.size, 0, none⟩ a0).setCell ⟨w.heap.size, 1, none⟩ a1).setCell ⟨w.heap.size, 2, none⟩ a2).setCell ⟨w.heap.size, 3, none⟩ a3)) := fun a0 a1 a2 a3 =>
    ⟨by simpa [pcZ] using (((HP9.out.z.set 0 a0).set 1 a1).set 2 a2).set 3 a3, (((HP9.out.bel.setCell (Nat.le_refl _) _).setCell (Nat.le_refl _) _).setCell (Nat.le_refl _) _).setCell (Nat.le_refl _) _⟩
  have hstr : (⟨(pc4 l).1.toArray⟩ : ByteArray).size = (pc4 l).1.length := by show (pc4 l).1.toArray.size = _; simp
  clear HP9
  by_cases hE : (pc4 l).2.2 = 0
  · rw [hE]
    by_cases hA : (pc1 l).1 = n + 1
    · have hA' : (((pc1 l).1 : Int) != (n : Int) + 1) = false := by rw [hA]; simp
      by_cases h3 : (pc3 l).1 = 1
      · have hb3 : (((pc3 l).1 : Int) == 1) = true := by rw [h3]; rfl
        have q1 : readPc l n = some ⟨(pc2 l).1, true, (pc4 l).1⟩ := by unfold readPc; rw [if_pos ⟨hE, hA, .inl h3⟩, h3]; rfl
        have Q1 : Hid (_ = _) := q1
        rw [hb3] at y2
        clear q1
        go_wp2_with fail
        refine bodyPost_ret (results_pair (ty := 83) rfl _ _ w.heap.size 83 #[.int .u64 (n : Int), .int .u64 ((pc2 l).1 : Int), .bool true, .string ⟨(pc4 l).1.toArray⟩] (.bool true) _ rfl rfl (HB9.out _ _ _ _).1 Try.underlying83 rfl (by kernel_rfl)) rfl ?_
        exact ⟨by rw [Q1.out]; rfl, (HB9.out _ _ _ _).2⟩
      · have hb3 : (((pc3 l).1 : Int) == 1) = false := by simp; omega
        have h3' : ((pc3 l).1 == 1) = false := by simp; omega
        rw [hb3] at y2
        by_cases h4 : 480 ≤ (pc4 l).1.length
        · have hd4 : decide (((pc4 l).1.length : Int) < 480) = false := decide_eq_false (by omega)
          have q1 : readPc l n = some ⟨(pc2 l).1, false, (pc4 l).1⟩ := by unfold readPc; rw [if_pos ⟨hE, hA, .inr h4⟩, h3']
          have Q1 : Hid (_ = _) := q1
          clear q1
          go_wp2_with fail
          refine bodyPost_ret (results_pair (ty := 83) rfl _ _ w.heap.size 83 #[.int .u64 (n : Int), .int .u64 ((pc2 l).1 : Int), .bool false, .string ⟨(pc4 l).1.toArray⟩] (.bool true) _ rfl rfl (HB9.out _ _ _ _).1 Try.underlying83 rfl (by kernel_rfl)) rfl ?_
          exact ⟨by rw [Q1.out]; rfl, (HB9.out _ _ _ _).2⟩
        · have hd4 : decide (((pc4 l).1.length : Int) < 480) = true := decide_eq_true (by omega)
          have q1 : readPc l n = none := by unfold readPc; rw [if_neg (fun h => by rcases h.2.2 with h | h <;> omega)]
          have Q1 : Hid (_ = _) := q1
          clear q1
          go_wp2_with fail
          refine bodyPost_ret (results_pair (ty := 83) rfl _ _ w.heap.size 83 pcZ (.bool false) _ rfl rfl (HB9.out _ _ _ _).1 Try.underlying83 rfl (by kernel_rfl)) rfl ?_
          exact ⟨by rw [Q1.out]; rfl, (HB9.out _ _ _ _).2⟩
    · have hA' : (((pc1 l).1 : Int) != (n : Int) + 1) = true := by simp; omega
      have q1 : readPc l n = none := by unfold readPc; rw [if_neg (fun h => hA h.2.1)]
      have Q1 : Hid (_ = _) := q1
      clear q1
      go_wp2_with fail
      refine bodyPost_ret (results_pair (ty := 83) rfl _ _ w.heap.size 83 pcZ (.bool false) _ rfl rfl (HB9.out _ _ _ _).1 Try.underlying83 rfl (by kernel_rfl)) rfl ?_
      exact ⟨by rw [Q1.out]; rfl, (HB9.out _ _ _ _).2⟩
  · have hE' : (((pc4 l).2.2 : Int) != 0) = true := by simp; omega
    have q1 : readPc l n = none := by unfold readPc; rw [if_neg (fun h => hE h.1)]
    have Q1 : Hid (_ = _) := q1
    clear q1
    go_wp2_with fail
    refine bodyPost_ret (results_pair (ty := 83) rfl _ _ w.heap.size 83 pcZ (.bool false) _ rfl rfl (HB9.out _ _ _ _).1 Try.underlying83 rfl (by kernel_rfl)) rfl ?_
    exact ⟨by rw [Q1.out]; rfl, (HB9.out _ _ _ _).2⟩
end Go.Proofs.Ytepfckckplbjjaa

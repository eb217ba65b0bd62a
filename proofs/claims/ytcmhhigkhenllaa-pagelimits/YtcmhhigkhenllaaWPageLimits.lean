/- PageLimits: the walk of the law's Go text. -/
import Derived.Test.YtcmhhigkhenllaaPg8
import Derived.Test.YtcmhhigkhenllaaBox
import Derived.Test.YtcmhhigkhenllaaLim
import Derived.Test.YtcmhhigkhenllaaSrcSeg
import Derived.Deep.Cut
namespace Go.Proofs.Ytcmhhigkhenllaa
open Go.ChangeShapes Go.WideShapes Go.ChangeAt Go.RowKit

theorem and_leL (a : Int) (m : Nat) (hm : m < 9223372036854775808) : ∃ i : Nat, i ≤ m ∧ bits .and .i64 a (m : Int) = (i : Int) := by
  have hle : (BitVec.ofInt 64 a &&& BitVec.ofInt 64 (m : Int)).toNat ≤ m := by
    rw [BitVec.toNat_and]
    refine Nat.le_trans Nat.and_le_right ?_
    rw [BitVec.ofInt_natCast, BitVec.toNat_ofNat]
    exact Nat.mod_le _ _
  refine ⟨(BitVec.ofInt 64 a &&& BitVec.ofInt 64 (m : Int)).toNat, hle, ?_⟩
  show IntKind.i64.wrap ((BitVec.ofInt 64 a &&& BitVec.ofInt 64 (m : Int)).toNat : Int) = _
  rw [IntKind.wrap_i64]
  omega

set_option maxRecDepth 100000 in
set_option maxHeartbeats 8000000 in
theorem walk_PageLimits (n c : Int) (w : World) (_hn : (Lit.int .i64 n).wf = true) (hc : (Lit.int .u8 c).wf = true) :
    Calls Try.prog 8 #[.int .i64 n, .int .u8 c] w fun e w' => e = .returned (.bool true) ∧ Below w.heap.size w w' := by
  have hcb := bounds_u8 hc
  obtain ⟨C, hC, hC256⟩ : ∃ C : Nat, c = (C : Int) ∧ C < 256 := ⟨c.toNat, by omega, by omega⟩
  subst hC
  obtain ⟨N, hN15, hN⟩ := and_leL n 15 (by omega)
  have hN' : bits BinOp.and IntKind.i64 n 15 = (N : Int) := hN
  clear hN hc hcb
  go_enter Try.func8, Try.ntmps8
  go_wp2_with fail
  refine (head6_any _).mono ?_
  rintro e w1 ⟨rfl, y⟩
  have Y1 : Hid (Below w.heap.size w w1) := y
  clear y
  have HB1 : Hid (Box (((w1.alloc (.cells #[.int .i64 1, .slice none 0 0, .slice none 0 0, .slice none 0 0, .int .i64 0, .int .i64 0, .int .i64 0, .int .i64 0] 25)).alloc (.cells #[.int .i64 (C : Int)] 3)).alloc (.cells #[.int .i64 2, .slice none 0 0, .slice none 0 0, .slice (some ⟨w1.heap.size + 1, 0, none⟩) 1 1, .int .i64 0, .int .i64 0, .int .i64 0, .int .i64 0] 25)) w.heap.size w1.heap.size (lfP C 0) (.slice none 0 0) (.slice none 0 0) (.slice none 0 0)) :=
    ⟨((Blk.new _ _ _).alloc _).alloc _, ⟨OwnV.nil _ _ _, OwnV.nil _ _ _, OwnV.nil _ _ _, fun g e => (by cases e), fun g e => (by cases e), fun g e => (by cases e)⟩, Y1.out.size, by simp [Value.ownBlock], by simp [Value.ownBlock], by simp [Value.ownBlock]⟩
  have hb3 : PBox (((w1.alloc (.cells #[.int .i64 1, .slice none 0 0, .slice none 0 0, .slice none 0 0, .int .i64 0, .int .i64 0, .int .i64 0, .int .i64 0] 25)).alloc (.cells #[.int .i64 (C : Int)] 3)).alloc (.cells #[.int .i64 2, .slice none 0 0, .slice none 0 0, .slice (some ⟨w1.heap.size + 1, 0, none⟩) 1 1, .int .i64 0, .int .i64 0, .int .i64 0, .int .i64 0] 25)) (w1.heap.size + 1 + 1) (inP C 0) (.slice none 0 0) (.slice none 0 0) (.slice (some ⟨w1.heap.size + 1, 0, none⟩) 1 1) := by
    have := Blk.new ((w1.alloc (.cells #[.int .i64 1, .slice none 0 0, .slice none 0 0, .slice none 0 0, .int .i64 0, .int .i64 0, .int .i64 0, .int .i64 0] 25)).alloc (.cells #[.int .i64 (C : Int)] 3)) (pgc (inP C 0) (.slice none 0 0) (.slice none 0 0) (.slice (some ⟨w1.heap.size + 1, 0, none⟩) 1 1)) 25
    rw [show (((w1.alloc (.cells #[.int .i64 1, .slice none 0 0, .slice none 0 0, .slice none 0 0, .int .i64 0, .int .i64 0, .int .i64 0, .int .i64 0] 25)).alloc (.cells #[.int .i64 (C : Int)] 3)).heap.size) = w1.heap.size + 1 + 1 by simp] at this
    exact this
  have hk3 : OwnV (((w1.alloc (.cells #[.int .i64 1, .slice none 0 0, .slice none 0 0, .slice none 0 0, .int .i64 0, .int .i64 0, .int .i64 0, .int .i64 0] 25)).alloc (.cells #[.int .i64 (C : Int)] 3)).alloc (.cells #[.int .i64 2, .slice none 0 0, .slice none 0 0, .slice (some ⟨w1.heap.size + 1, 0, none⟩) 1 1, .int .i64 0, .int .i64 0, .int .i64 0, .int .i64 0] 25)) w.heap.size 3 (.slice (some ⟨w1.heap.size + 1, 0, none⟩) 1 1) (iv (limD C 0)) := by
    have := World.ownsRow_lit (base := w.heap.size) (e := 3) (size := 1) (w1.alloc (.cells #[.int .i64 1, .slice none 0 0, .slice none 0 0, .slice none 0 0, .int .i64 0, .int .i64 0, .int .i64 0, .int .i64 0] 25)) #[.int .i64 (C : Int)] 1 (by have := Y1.out.size; simp; omega) (by simp [maxLen]) rfl
    rw [show (w1.alloc (.cells #[.int .i64 1, .slice none 0 0, .slice none 0 0, .slice none 0 0, .int .i64 0, .int .i64 0, .int .i64 0, .int .i64 0] 25)).heap.size = w1.heap.size + 1 by simp] at this
    exact World.ownsRow.alloc this _
  have HB3 : Hid (Box (((w1.alloc (.cells #[.int .i64 1, .slice none 0 0, .slice none 0 0, .slice none 0 0, .int .i64 0, .int .i64 0, .int .i64 0, .int .i64 0] 25)).alloc (.cells #[.int .i64 (C : Int)] 3)).alloc (.cells #[.int .i64 2, .slice none 0 0, .slice none 0 0, .slice (some ⟨w1.heap.size + 1, 0, none⟩) 1 1, .int .i64 0, .int .i64 0, .int .i64 0, .int .i64 0] 25)) w.heap.size (w1.heap.size + 1 + 1) (inP C 0) (.slice none 0 0) (.slice none 0 0) (.slice (some ⟨w1.heap.size + 1, 0, none⟩) 1 1)) :=
    ⟨hb3, ⟨OwnV.nil _ _ _, OwnV.nil _ _ _, hk3, fun g e => (by cases e), fun g e => (by cases e), fun g e => (by cases e)⟩, by have := Y1.out.size; omega, by simp [Value.ownBlock], by simp [Value.ownBlock], by simp [Value.ownBlock]⟩
  have HD0 : Hid (Dis w1.heap.size (.slice none 0 0) (.slice none 0 0) (.slice none 0 0) (w1.heap.size + 1 + 1) (.slice none 0 0) (.slice none 0 0) (.slice (some ⟨w1.heap.size + 1, 0, none⟩) 1 1)) := fun g h1 h2 => by
    simp [fp, Value.ownBlock] at h1 h2
    omega
  have HY0 : Hid (Below w.heap.size w (((w1.alloc (.cells #[.int .i64 1, .slice none 0 0, .slice none 0 0, .slice none 0 0, .int .i64 0, .int .i64 0, .int .i64 0, .int .i64 0] 25)).alloc (.cells #[.int .i64 (C : Int)] 3)).alloc (.cells #[.int .i64 2, .slice none 0 0, .slice none 0 0, .slice (some ⟨w1.heap.size + 1, 0, none⟩) 1 1, .int .i64 0, .int .i64 0, .int .i64 0, .int .i64 0] 25))) := ((Y1.out.alloc Y1.out.size _).alloc (by have := Y1.out.size; simp; omega) _).alloc (by have := Y1.out.size; simp; omega) _
  clear hb3 hk3
  go_wp2
  go_loopw [7, 8] (fun vi _ wr => ∃ (k : Nat) (kv vv dv kv' vv' dv' : Value), vi = .int .i64 k ∧ k ≤ N ∧ Box wr w.heap.size w1.heap.size (lfP C k) kv vv dv ∧ Box wr w.heap.size (w1.heap.size + 1 + 1) (inP C k) kv' vv' dv' ∧ Dis w1.heap.size kv vv dv (w1.heap.size + 1 + 1) kv' vv' dv' ∧ Below w.heap.size w wr) (fun vi _ _ => N - (intOf vi).toNat)
  case atStart => exact ⟨0, _, _, _, _, _, _, rfl, Nat.zero_le _, HB1.out, HB3.out, HD0.out, HY0.out⟩
  case round =>
    obtain ⟨k, kv, vv, dv, kv', vv', dv', rfl, hkN, hb1, hb3, hd, hy⟩ := hrel
    clear HB1 HB3 HD0 HY0 Y1
    have BA : Hid (Box wr w.heap.size w1.heap.size (lfP C k) kv vv dv) := hb1
    have BB : Hid (Box wr w.heap.size (w1.heap.size + 1 + 1) (inP C k) kv' vv' dv') := hb3
    have DS : Hid (Dis w1.heap.size kv vv dv (w1.heap.size + 1 + 1) kv' vv' dv') := hd
    have HY : Hid (Below w.heap.size w wr) := hy
    clear hb1 hb3 hd hy
    by_cases hlt : k < N
    · have hst : (convert 29 9 (.slice (some ⟨wr.heap.size, 0, none⟩) 2 2)).run Try.prog (wr.alloc (.cells #[.int .u8 ((k : Int) + 1), .int .u8 (C : Int)] 5)) = .ok (.string (kb C k)) (wr.alloc (.cells #[.int .u8 ((k : Int) + 1), .int .u8 (C : Int)] 5)) := by
        have h := Blk.new wr (bv [UInt8.ofNat (k + 1), UInt8.ofNat C]).toArray 5
        have hs := (Blk.src (k := 2) (c := 2) h (by simp) (by omega) (by simp [maxLen])).str
        have e1 : (bv [UInt8.ofNat (k + 1), UInt8.ofNat C]).toArray = #[.int .u8 ((k : Int) + 1), .int .u8 (C : Int)] := by
          have h1 : (((UInt8.ofNat (k + 1)).toNat : Nat) : Int) = (k : Int) + 1 := by rw [UInt8.toNat_ofNat']; omega
          have h2 : (((UInt8.ofNat C).toNat : Nat) : Int) = (C : Int) := by rw [UInt8.toNat_ofNat']; omega
          simp only [bv, List.map_cons, List.map_nil, h1, h2]
        rw [e1] at hs
        exact hs
      go_upto_region 10 with fail
      have hbl : Below wr.heap.size wr (wr.alloc (.cells #[.int .u8 ((k : Int) + 1), .int .u8 (C : Int)] 5)) := (Below.refl _ _).alloc (Nat.le_refl _) _
      have BA1 : Hid (Box (wr.alloc (.cells #[.int .u8 ((k : Int) + 1), .int .u8 (C : Int)] 5)) w.heap.size w1.heap.size (lfP C k) kv vv dv) := BA.out.below hbl
      have BB1 : Hid (Box (wr.alloc (.cells #[.int .u8 ((k : Int) + 1), .int .u8 (C : Int)] 5)) w.heap.size (w1.heap.size + 1 + 1) (inP C k) kv' vv' dv') := BB.out.below hbl
      have HYa : Hid (Below w.heap.size w (wr.alloc (.cells #[.int .u8 ((k : Int) + 1), .int .u8 (C : Int)] 5))) := ext_trans HY.out hbl
      have DSa : Hid (Dis w1.heap.size kv vv dv (w1.heap.size + 1 + 1) kv' vv' dv') := DS.out
      have LENa : Hid ((limK C k).length < 1099511627776) := by show _ < _; rw [limK_length]; omega
      have LENb : Hid ((List.replicate k (⟨#[]⟩ : ByteArray)).length < 1099511627776) := by show _ < _; rw [List.length_replicate]; omega
      have LENc : Hid ((limK C k).length < 1099511627776) := by show _ < _; rw [limK_length]; omega
      have LENd : Hid ((limD C k).length < 1099511627776) := by show _ < _; rw [limD_length]; omega
      clear hst hbl BA BB DS HY
      generalize wr.alloc (.cells #[.int .u8 ((k : Int) + 1), .int .u8 (C : Int)] 5) = WA at *
      obtain ⟨z0, z1, z2, z3, z4, z5, z6, z7⟩ := BA1.out.box.cells
      have lta := Blk.lt BA1.out.box
      go_wp2_with (at_builtin; refine wpList_pushS WA rfl _ _ rfl w.heap.size kv (limK C k) (kb C k) BA1.out.own.keys rfl rfl LENa.out HYa.out.size ?_)
      intro aa na ca Xa hna ho hg hat
      have BXa : Hid (Box (Xa.setCell ⟨w1.heap.size, 1, none⟩ (.slice aa na ca)) w.heap.size w1.heap.size _ (.slice aa na ca) vv dv) := BA1.out.pushK ho hg hat
      have BOa : Hid (Box (Xa.setCell ⟨w1.heap.size, 1, none⟩ (.slice aa na ca)) w.heap.size (w1.heap.size + 1 + 1) _ kv' vv' dv') := BB1.out.other DSa.out (fun g e => .inr (.inl e)) hg _
      have DNa : Hid (Dis w1.heap.size (.slice aa na ca) vv dv (w1.heap.size + 1 + 1) kv' vv' dv') := DSa.out.pushK BB1.out hat
      have HYNa : Hid (Below w.heap.size w (Xa.setCell ⟨w1.heap.size, 1, none⟩ (.slice aa na ca))) := push_below HYa.out HYa.out.size (fun g e => (BA1.out.own.keys.blk g e).1) BA1.out.hb hg _
      have pre := BA1.out.pre BA1.out.nk hg
      clear z0 z1 z2 z3 z4 z5 z6 z7 ho hg hat lta
      obtain ⟨z0, z1, z2, z3, z4, z5, z6, z7⟩ := pre.cells
      have ff := pre.frozen 1
      clear pre BA1 BB1 DSa HYa hna
      go_upto_region 11 with fail
      generalize Xa.setCell ⟨w1.heap.size, 1, none⟩ (.slice aa na ca) = WB at *
      clear z0 z1 z2 z3 z4 z5 z6 z7 ff
      have DSb := DNa
      have HYb := HYNa
      clear DNa HYNa
      obtain ⟨z0, z1, z2, z3, z4, z5, z6, z7⟩ := BXa.out.box.cells
      have ltb := Blk.lt BXa.out.box
      go_wp2_with (at_builtin; refine wpList_pushS WB rfl _ _ rfl w.heap.size vv (List.replicate k ⟨#[]⟩) ⟨#[]⟩ BXa.out.own.vals rfl rfl LENb.out HYb.out.size ?_)
      intro ab nb cb Xb hnb ho hg hat
      have BXb : Hid (Box (Xb.setCell ⟨w1.heap.size, 2, none⟩ (.slice ab nb cb)) w.heap.size w1.heap.size _ (.slice aa na ca) (.slice ab nb cb) dv) := BXa.out.pushV ho hg hat
      have BOb : Hid (Box (Xb.setCell ⟨w1.heap.size, 2, none⟩ (.slice ab nb cb)) w.heap.size (w1.heap.size + 1 + 1) _ kv' vv' dv') := BOa.out.other DSb.out (fun g e => .inr (.inr (.inl e))) hg _
      have DNb : Hid (Dis w1.heap.size (.slice aa na ca) (.slice ab nb cb) dv (w1.heap.size + 1 + 1) kv' vv' dv') := DSb.out.pushV BOa.out hat
      have HYNb : Hid (Below w.heap.size w (Xb.setCell ⟨w1.heap.size, 2, none⟩ (.slice ab nb cb))) := push_below HYb.out HYb.out.size (fun g e => (BXa.out.own.vals.blk g e).1) BXa.out.hb hg _
      have pre := BXa.out.pre BXa.out.nv hg
      clear z0 z1 z2 z3 z4 z5 z6 z7 ho hg hat ltb
      obtain ⟨z0, z1, z2, z3, z4, z5, z6, z7⟩ := pre.cells
      have ff := pre.frozen 2
      clear pre BXa BOa DSb HYb hnb
      go_upto_region 12 with fail
      generalize Xb.setCell ⟨w1.heap.size, 2, none⟩ (.slice ab nb cb) = WC at *
      clear z0 z1 z2 z3 z4 z5 z6 z7 ff
      have DSc : Hid (Dis (w1.heap.size + 1 + 1) kv' vv' dv' w1.heap.size (.slice aa na ca) (.slice ab nb cb) dv) := DNb.out.symm
      have HYc := HYNb
      clear DNb HYNb
      obtain ⟨z0, z1, z2, z3, z4, z5, z6, z7⟩ := BOb.out.box.cells
      have ltc := Blk.lt BOb.out.box
      go_wp2_with (at_builtin; refine wpList_pushS WC rfl _ _ rfl w.heap.size kv' (limK C k) (kb C k) BOb.out.own.keys rfl rfl LENc.out HYc.out.size ?_)
      intro ac nc cc Xc hnc ho hg hat
      have BXc : Hid (Box (Xc.setCell ⟨(w1.heap.size + 1 + 1), 1, none⟩ (.slice ac nc cc)) w.heap.size (w1.heap.size + 1 + 1) _ (.slice ac nc cc) vv' dv') := BOb.out.pushK ho hg hat
      have BOc : Hid (Box (Xc.setCell ⟨(w1.heap.size + 1 + 1), 1, none⟩ (.slice ac nc cc)) w.heap.size w1.heap.size _ (.slice aa na ca) (.slice ab nb cb) dv) := BXb.out.other DSc.out (fun g e => .inr (.inl e)) hg _
      have DNc : Hid (Dis (w1.heap.size + 1 + 1) (.slice ac nc cc) vv' dv' w1.heap.size (.slice aa na ca) (.slice ab nb cb) dv) := DSc.out.pushK BXb.out hat
      have HYNc : Hid (Below w.heap.size w (Xc.setCell ⟨(w1.heap.size + 1 + 1), 1, none⟩ (.slice ac nc cc))) := push_below HYc.out HYc.out.size (fun g e => (BOb.out.own.keys.blk g e).1) BOb.out.hb hg _
      have pre := BOb.out.pre BOb.out.nk hg
      clear z0 z1 z2 z3 z4 z5 z6 z7 ho hg hat ltc
      obtain ⟨z0, z1, z2, z3, z4, z5, z6, z7⟩ := pre.cells
      have ff := pre.frozen 1
      clear pre BOb BXb DSc HYc hnc
      go_upto_region 13 with fail
      generalize Xc.setCell ⟨(w1.heap.size + 1 + 1), 1, none⟩ (.slice ac nc cc) = WD at *
      clear z0 z1 z2 z3 z4 z5 z6 z7 ff
      have DSd := DNc
      have HYd := HYNc
      clear DNc HYNc
      obtain ⟨z0, z1, z2, z3, z4, z5, z6, z7⟩ := BXc.out.box.cells
      have ltd := Blk.lt BXc.out.box
      go_wp2_with (at_builtin; refine wpList_pushI WD rfl _ _ rfl w.heap.size dv' (limD C k) (k : Int) BXc.out.own.kids rfl rfl LENd.out HYd.out.size ?_)
      intro ad nd cd Xd hnd ho hg hat
      have BXd : Hid (Box (Xd.setCell ⟨(w1.heap.size + 1 + 1), 3, none⟩ (.slice ad nd cd)) w.heap.size (w1.heap.size + 1 + 1) _ (.slice ac nc cc) vv' (.slice ad nd cd)) := BXc.out.pushD ho hg hat
      have BOd : Hid (Box (Xd.setCell ⟨(w1.heap.size + 1 + 1), 3, none⟩ (.slice ad nd cd)) w.heap.size w1.heap.size _ (.slice aa na ca) (.slice ab nb cb) dv) := BOc.out.other DSd.out (fun g e => .inr (.inr (.inr e))) hg _
      have DNd : Hid (Dis (w1.heap.size + 1 + 1) (.slice ac nc cc) vv' (.slice ad nd cd) w1.heap.size (.slice aa na ca) (.slice ab nb cb) dv) := DSd.out.pushD BOc.out hat
      have HYNd : Hid (Below w.heap.size w (Xd.setCell ⟨(w1.heap.size + 1 + 1), 3, none⟩ (.slice ad nd cd))) := push_below HYd.out HYd.out.size (fun g e => (BXc.out.own.kids.blk g e).1) BXc.out.hb hg _
      have pre := BXc.out.pre BXc.out.nd hg
      clear z0 z1 z2 z3 z4 z5 z6 z7 ho hg hat ltd
      obtain ⟨z0, z1, z2, z3, z4, z5, z6, z7⟩ := pre.cells
      have ff := pre.frozen 3
      clear pre BXc BOc DSd HYd hnd
      go_upto_region 8 with fail
      generalize Xd.setCell ⟨(w1.heap.size + 1 + 1), 3, none⟩ (.slice ad nd cd) = WE at *
      clear z0 z1 z2 z3 z4 z5 z6 z7 ff
      have hl1 : (lfP C (k + 1)) = { { lfP C k with keys := limK C k ++ [kb C k] } with vals := List.replicate k ⟨#[]⟩ ++ [⟨#[]⟩] } := by rw [lfP, limK_succ, limV_succ]; rfl
      have hi1 : (inP C (k + 1)) = { { inP C k with keys := limK C k ++ [kb C k] } with kids := limD C k ++ [(k : Int)] } := by rw [inP, limK_succ, limD_succ]; rfl
      have R1 : Hid (Box WE w.heap.size w1.heap.size (lfP C (k + 1)) (.slice aa na ca) (.slice ab nb cb) dv) := by rw [hl1]; exact BOd.out
      have R2 : Hid (Box WE w.heap.size (w1.heap.size + 1 + 1) (inP C (k + 1)) (.slice ac nc cc) vv' (.slice ad nd cd)) := by rw [hi1]; exact BXd.out
      clear hl1 hi1
      go_wp2
      go_roundw
      case rel => exact ⟨k + 1, _, _, _, _, _, _, by go_num, by omega, R1.out, R2.out, DNd.out.symm, HYNd.out⟩
      case measure => simp [intOf]; omega
    · have hkn : k = N := by omega
      subst hkn
      have HR1 : Hid (rightPg (lfP C k) = decide (k ≤ 6)) := lf_right C k (by omega)
      have HR2 : Hid (rightPg (inP C k) = (decide (1 ≤ k) && decide (k ≤ 7))) := in_right C k hC256 (by omega)
      have O1 : Hid (lfP C k).Ok := lf_ok C k
      have O2 : Hid (inP C k).Ok := in_ok C k hC256 (by omega)
      obtain ⟨x1, hx1⟩ : ∃ b, rightPg (lfP C k) = b := ⟨_, rfl⟩
      obtain ⟨x2, hx2⟩ : ∃ b, rightPg (inP C k) = b := ⟨_, rfl⟩
      have E1 : Hid (∀ W kv vv dv, Box W w.heap.size w1.heap.size (lfP C k) kv vv dv → Calls Try.prog 17 #[pgv (lfP C k) kv vv dv, .int .u64 0] W fun e w' => (∃ v, e = .returned (.tuple #[v, .int .i64 (if x1 then 0 else 1)])) ∧ Below W.heap.size W w') := fun W kv vv dv h => (encode_any _ 0 kv vv dv W h.own.at O1.out (by omega)).mono fun e w' he => by
        refine ⟨?_, he.2⟩
        have := he.1
        rw [hx1] at this
        cases x1 with
        | true => obtain ⟨v, hv, _⟩ := this; exact ⟨v, hv⟩
        | false => exact ⟨_, this⟩
      have E2 : Hid (∀ W kv vv dv, Box W w.heap.size (w1.heap.size + 1 + 1) (inP C k) kv vv dv → Calls Try.prog 17 #[pgv (inP C k) kv vv dv, .int .u64 0] W fun e w' => (∃ v, e = .returned (.tuple #[v, .int .i64 (if x2 then 0 else 1)])) ∧ Below W.heap.size W w') := fun W kv vv dv h => (encode_any _ 0 kv vv dv W h.own.at O2.out (by omega)).mono fun e w' he => by
        refine ⟨?_, he.2⟩
        have := he.1
        rw [hx2] at this
        cases x2 with
        | true => obtain ⟨v, hv, _⟩ := this; exact ⟨v, hv⟩
        | false => exact ⟨_, this⟩
      have E3 : Hid (∀ W kv vv dv, Box W w.heap.size w1.heap.size (lfP C k) kv vv dv → Calls Try.prog 18 #[pgv (lfP C k) kv vv dv] W fun e w' => e = .returned (.bool x1) ∧ Below W.heap.size W w') := fun W kv vv dv h => by rw [← hx1]; exact right_any _ _ _ _ W h.own.at O1.out
      have E4 : Hid (∀ W kv vv dv, Box W w.heap.size (w1.heap.size + 1 + 1) (inP C k) kv vv dv → Calls Try.prog 18 #[pgv (inP C k) kv vv dv] W fun e w' => e = .returned (.bool x2) ∧ Below W.heap.size W w') := fun W kv vv dv h => by rw [← hx2]; exact right_any _ _ _ _ W h.own.at O2.out
      have H1 : Hid (x1 = decide (k ≤ 6)) := by rw [← hx1]; exact HR1.out
      have H2 : Hid (x2 = (decide (1 ≤ k) && decide (k ≤ 7))) := by rw [← hx2]; exact HR2.out
      clear hx1 hx2 HR1 HR2
      obtain ⟨ka, kc, va, vc, da, dc, rfl, rfl, rfl, _, _, _⟩ := BA.out.own.at.forms
      obtain ⟨ka', kc', va', vc', da', dc', rfl, rfl, rfl, _, _, _⟩ := BB.out.own.at.forms
      unfold pgv at *
      generalize (lfP C k).keys.length = q1 at *
      generalize (lfP C k).vals.length = q2 at *
      generalize (lfP C k).kids.length = q3 at *
      generalize (inP C k).keys.length = q4 at *
      generalize (inP C k).vals.length = q5 at *
      generalize (inP C k).kids.length = q6 at *
      obtain ⟨x0, x1', x2', x3, x4, x5, x6, x7⟩ := BA.out.box.cells
      obtain ⟨z0, z1, z2, z3, z4, z5, z6, z7⟩ := BB.out.box.cells
      have hways : ((0 ≤ k ∧ k ≤ 0) ∧ x1 = true ∧ x2 = false) ∨ ((1 ≤ k ∧ k ≤ 6) ∧ x1 = true ∧ x2 = true) ∨ ((7 ≤ k ∧ k ≤ 7) ∧ x1 = false ∧ x2 = true) ∨ ((8 ≤ k ∧ k ≤ 16) ∧ x1 = false ∧ x2 = false) := by
        have h1 := H1.out
        have h2 := H2.out
        rcases (show (0 ≤ k ∧ k ≤ 0) ∨ (1 ≤ k ∧ k ≤ 6) ∨ (7 ≤ k ∧ k ≤ 7) ∨ (8 ≤ k ∧ k ≤ 16) by omega) with h | h | h | h
        · exact .inl ⟨h, by rw [h1]; simp; omega, by rw [h2]; simp; omega⟩
        · exact .inr (.inl ⟨h, by rw [h1]; simp; omega, by rw [h2]; simp; omega⟩)
        · exact .inr (.inr (.inl ⟨h, by rw [h1]; simp; omega, by rw [h2]; simp; omega⟩))
        · exact .inr (.inr (.inr ⟨h, by rw [h1]; simp; omega, by rw [h2]; simp; omega⟩))
      clear H1 H2 hN' hN15
      rcases hways with ⟨hk, h1, h2⟩ | ⟨hk, h1, h2⟩ | ⟨hk, h1, h2⟩ | ⟨hk, h1, h2⟩
      all_goals
        subst h1 h2
        obtain ⟨hk, hk'⟩ := hk
        go_wp2_with fail
        refine (E1.out _ _ _ _ BA.out).mono ?_
        rintro e w2 ⟨⟨v2, rfl⟩, y⟩
        have BA2 := BA.out.below y
        have BB2 := BB.out.below y
        have YA : Hid (Below w.heap.size w w2) := ext_trans HY.out y
        have PA : Hid (Box w2 w.heap.size w1.heap.size (lfP C k) _ _ _) := BA2
        have PB : Hid (Box w2 w.heap.size (w1.heap.size + 1 + 1) (inP C k) _ _ _) := BB2
        clear y BA2 BB2 BA BB HY x0 x1' x2' x3 x4 x5 x6 x7 z0 z1 z2 z3 z4 z5 z6 z7
        obtain ⟨x0, x1', x2', x3, x4, x5, x6, x7⟩ := PA.out.box.cells
        obtain ⟨z0, z1, z2, z3, z4, z5, z6, z7⟩ := PB.out.box.cells
        go_wp2_with fail
        refine (E2.out _ _ _ _ PB.out).mono ?_
        rintro e w3 ⟨⟨v3, rfl⟩, y⟩
        have YB : Hid (Below w.heap.size w w3) := ext_trans YA.out y
        have QA : Hid (Box w3 w.heap.size w1.heap.size (lfP C k) _ _ _) := PA.out.below y
        have QB : Hid (Box w3 w.heap.size (w1.heap.size + 1 + 1) (inP C k) _ _ _) := PB.out.below y
        clear y PA PB YA x0 x1' x2' x3 x4 x5 x6 x7 z0 z1 z2 z3 z4 z5 z6 z7
        obtain ⟨x0, x1', x2', x3, x4, x5, x6, x7⟩ := QA.out.box.cells
        obtain ⟨z0, z1, z2, z3, z4, z5, z6, z7⟩ := QB.out.box.cells
        go_wp2_with fail
        refine (E3.out _ _ _ _ QA.out).mono ?_
        rintro e w4 ⟨rfl, y⟩
        have YC : Hid (Below w.heap.size w w4) := ext_trans YB.out y
        have RB : Hid (Box w4 w.heap.size (w1.heap.size + 1 + 1) (inP C k) _ _ _) := QB.out.below y
        clear y QA QB YB x0 x1' x2' x3 x4 x5 x6 x7 z0 z1 z2 z3 z4 z5 z6 z7
        obtain ⟨z0, z1, z2, z3, z4, z5, z6, z7⟩ := RB.out.box.cells
        go_wp2_with fail
        refine (E4.out _ _ _ _ RB.out).mono ?_
        rintro e w5 ⟨rfl, y⟩
        have YD : Hid (Below w.heap.size w w5) := ext_trans YC.out y
        clear y RB YC z0 z1 z2 z3 z4 z5 z6 z7
        go_wp2
        go_ret
        refine ⟨ret_bool ?_, YD.out⟩
        first | rfl | (simp; omega)
end Go.Proofs.Ytcmhhigkhenllaa

/- DiskRuns: the walk of the law's Go text. -/
import Derived.Test.YtpojpmkflgmgkaaRunsA
import Derived.Test.YtpojpmkflgmgkaaRunsB
import Derived.Test.YtpojpmkflgmgkaaRunsC
import Derived.Test.YtpojpmkflgmgkaaRunsD
import Derived.Test.YtpojpmkflgmgkaaRunsE
import Derived.Test.YtpojpmkflgmgkaaRunsR
import Derived.Test.YtpojpmkflgmgkaaRunsW1
import Derived.Test.YtpojpmkflgmgkaaRunsW2
import Derived.Test.YtpojpmkflgmgkaaRunsW3
namespace Go.Proofs.Ytpojpmkflgmgkaa
open Go.ChangeShapes Go.WideShapes Go.ChangeAt Go.RowKit

/-- A round, whatever the operation is. -/
theorem run_any (w0 : World) (n : Nat) (hn : n ≤ 15) (x : Addr) (no co g k : Nat) (hk : k < no) (hk2 : k < 50) (T : Nat → Value) (b6 c6 b7 c7 : Nat) (a8 : Option Addr) (n8 c8 : Nat) (lnow lsafe : List LSec) (lw : List OpV) (lf : Nat) (ld : Bool) (ls : Nat) (f : Foot) (st : DSt) (wr : World) (Q : Exit → Act → World → Prop)
    (kk at_ : Int) (bo : Option Addr) (bn bc : Nat) (bl : List UInt8) (ko : Option Addr) (kn kc : Nat) (kl : List Bool) (tr : Int) (hop0 : OpAt w0 x k ⟨kk, at_, bo, bn, bc, bl, ko, kn, kc, kl, tr⟩)
    (hM : Mem w0 wr g n b6 c6 b7 c7 a8 n8 c8 ⟨lnow, lsafe, lw, lf, ld, ls⟩ f st) (hS : Sim n ⟨lnow, lsafe, lw, lf, ld, ls⟩ st) (hwk : lw.length ≤ k) (hsk : ls ≤ k) :
    Code.wp Try.prog (bodyOf Try.f3) (Exit.then (fun a' w' => RI w0 n (some x) no co g a' w' ∧ Rmu a' w' < 50 - k) Q) ⟨fr T (.int .i64 (n : Int)) (.slice (some x) no co) (.bool false) (dptr g) (.slice (some ⟨b6, 0, none⟩) n c6) (.slice (some ⟨b7, 0, none⟩) n c7) (.slice a8 n8 c8) (.int .i64 (lf : Int)) (.bool ld) (.int .i64 (ls : Int)) (.int .i64 (k : Int)), []⟩ wr := by
  by_cases hbn0 : 600 < bn
  · exact run_long1 w0 n hn x no co g k hk hk2 T b6 c6 b7 c7 a8 n8 c8 lnow lsafe lw lf ld ls f st wr Q kk at_ bo bn bc bl ko kn kc kl tr hop0 hM hS hwk hsk hbn0
  have hbn : bn ≤ 600 := by omega
  by_cases hkn0 : 60 < kn
  · exact run_long2 w0 n hn x no co g k hk hk2 T b6 c6 b7 c7 a8 n8 c8 lnow lsafe lw lf ld ls f st wr Q kk at_ bo bn bc bl ko kn kc kl tr hop0 hM hS hwk hsk hbn hkn0
  have hkn : kn ≤ 60 := by omega
  have hfus : lf = 0 ∨ lf = 1 ∨ ∃ q, lf = q + 2 := by
    rcases lf with _ | _ | q
    · exact .inl rfl
    · exact .inr (.inl rfl)
    · exact .inr (.inr ⟨q, rfl⟩)
  have hins : at_ < 0 ∨ (n : Int) ≤ at_ ∨ ∃ i : Nat, at_ = (i : Int) ∧ i < n := by
    rcases (show at_ < 0 ∨ (n : Int) ≤ at_ ∨ (0 ≤ at_ ∧ at_ < (n : Int)) by omega) with h | h | ⟨h, h'⟩
    · exact .inl h
    · exact .inr (.inl h)
    · obtain ⟨i, rfl⟩ := Int.eq_ofNat_of_zero_le h
      exact .inr (.inr ⟨i, rfl, by omega⟩)
  have hlds : ld = true ∨ ld = false := by cases ld <;> simp
  rcases (show kk < 0 ∨ kk = 0 ∨ kk = 1 ∨ kk = 2 ∨ kk = 3 ∨ kk = 4 ∨ kk = 5 ∨ 5 < kk by omega) with hkk | rfl | rfl | rfl | rfl | rfl | rfl | hkk
  · exact run_none1 w0 n hn x no co g k hk hk2 T b6 c6 b7 c7 a8 n8 c8 lnow lsafe lw lf ld ls f st wr Q kk at_ bo bn bc bl ko kn kc kl tr hop0 hM hS hwk hsk hbn hkn hkk
  · rcases hins with hi | hi | ⟨i, hia, hi⟩
    · exact run_write_low w0 n hn x no co g k hk hk2 T b6 c6 b7 c7 a8 n8 c8 lnow lsafe lw lf ld ls f st wr Q at_ bo bn bc bl ko kn kc kl tr hop0 hM hS hwk hsk hbn hkn hi
    · exact run_write_high w0 n hn x no co g k hk hk2 T b6 c6 b7 c7 a8 n8 c8 lnow lsafe lw lf ld ls f st wr Q at_ bo bn bc bl ko kn kc kl tr hop0 hM hS hwk hsk hbn hkn hi
    · by_cases hb50 : 512 < bn
      · exact run_write_big w0 n hn x no co g k hk hk2 T b6 c6 b7 c7 a8 n8 c8 lnow lsafe lw lf ld ls f st wr Q at_ bo bn bc bl ko kn kc kl tr hop0 hM hS hwk hsk hbn hkn (by omega) hb50
      have hb5 : bn ≤ 512 := by omega
      rcases hlds with hld | hld
      · exact run_write_down w0 n hn x no co g k hk hk2 T b6 c6 b7 c7 a8 n8 c8 lnow lsafe lw lf ld ls f st wr Q at_ bo bn bc bl ko kn kc kl tr hop0 hM hS hwk hsk hbn hkn i hia hi hb5 hld
      · rcases hfus with hf | hf | ⟨q, hf⟩
        · exact run_write_free w0 n hn x no co g k hk hk2 T b6 c6 b7 c7 a8 n8 c8 lnow lsafe lw lf ld ls f st wr Q at_ bo bn bc bl ko kn kc kl tr hop0 hM hS hwk hsk hbn hkn i hia hi hb5 hld hf
        · exact run_write_fuse w0 n hn x no co g k hk hk2 T b6 c6 b7 c7 a8 n8 c8 lnow lsafe lw lf ld ls f st wr Q at_ bo bn bc bl ko kn kc kl tr hop0 hM hS hwk hsk hbn hkn i hia hi hb5 hld hf
        · exact run_write_count w0 n hn x no co g k hk hk2 T b6 c6 b7 c7 a8 n8 c8 lnow lsafe lw lf ld ls f st wr Q at_ bo bn bc bl ko kn kc kl tr hop0 hM hS hwk hsk hbn hkn i hia hi hb5 hld q hf
  · rcases hins with hi | hi | ⟨i, hia, hi⟩
    · exact run_read_low w0 n hn x no co g k hk hk2 T b6 c6 b7 c7 a8 n8 c8 lnow lsafe lw lf ld ls f st wr Q at_ bo bn bc bl ko kn kc kl tr hop0 hM hS hwk hsk hbn hkn hi
    · exact run_read_high w0 n hn x no co g k hk hk2 T b6 c6 b7 c7 a8 n8 c8 lnow lsafe lw lf ld ls f st wr Q at_ bo bn bc bl ko kn kc kl tr hop0 hM hS hwk hsk hbn hkn hi
    · rcases hlds with hld | hld
      · exact run_read_down w0 n hn x no co g k hk hk2 T b6 c6 b7 c7 a8 n8 c8 lnow lsafe lw lf ld ls f st wr Q at_ bo bn bc bl ko kn kc kl tr hop0 hM hS hwk hsk hbn hkn i hia hi hld
      · have hil : i < lnow.length := by have := hS.len; simp only at this; omega
        cases htn : lnow[i].2 with
        | true => exact run_read_torn w0 n hn x no co g k hk hk2 T b6 c6 b7 c7 a8 n8 c8 lnow lsafe lw lf ld ls f st wr Q at_ bo bn bc bl ko kn kc kl tr hop0 hM hS hwk hsk hbn hkn i hia hi hld (by rw [List.getElem?_eq_getElem hil, Option.map_some, htn])
        | false => exact run_read_ok w0 n hn x no co g k hk hk2 T b6 c6 b7 c7 a8 n8 c8 lnow lsafe lw lf ld ls f st wr Q at_ bo bn bc bl ko kn kc kl tr hop0 hM hS hwk hsk hbn hkn i hia hi hld (by rw [List.getElem?_eq_getElem hil, Option.map_some, htn])
  · rcases hlds with hld | hld
    · exact run_sync_down w0 n hn x no co g k hk hk2 T b6 c6 b7 c7 a8 n8 c8 lnow lsafe lw lf ld ls f st wr Q at_ bo bn bc bl ko kn kc kl tr hop0 hM hS hwk hsk hbn hkn hld
    · rcases hfus with hf | hf | ⟨q, hf⟩
      · exact run_sync_free w0 n hn x no co g k hk hk2 T b6 c6 b7 c7 a8 n8 c8 lnow lsafe lw lf ld ls f st wr Q at_ bo bn bc bl ko kn kc kl tr hop0 hM hS hwk hsk hbn hkn hld hf
      · exact run_sync_fuse w0 n hn x no co g k hk hk2 T b6 c6 b7 c7 a8 n8 c8 lnow lsafe lw lf ld ls f st wr Q at_ bo bn bc bl ko kn kc kl tr hop0 hM hS hwk hsk hbn hkn hld hf
      · exact run_sync_count w0 n hn x no co g k hk hk2 T b6 c6 b7 c7 a8 n8 c8 lnow lsafe lw lf ld ls f st wr Q at_ bo bn bc bl ko kn kc kl tr hop0 hM hS hwk hsk hbn hkn hld q hf
  · rcases hlds with hld | hld
    · exact run_fuse_down w0 n hn x no co g k hk hk2 T b6 c6 b7 c7 a8 n8 c8 lnow lsafe lw lf ld ls f st wr Q at_ bo bn bc bl ko kn kc kl tr hop0 hM hS hwk hsk hbn hkn hld
    · by_cases hneg : at_ < 0
      · exact run_fuse_neg w0 n hn x no co g k hk hk2 T b6 c6 b7 c7 a8 n8 c8 lnow lsafe lw lf ld ls f st wr Q at_ bo bn bc bl ko kn kc kl tr hop0 hM hS hwk hsk hbn hkn hld hneg
      · obtain ⟨qq, hqq⟩ := Int.eq_ofNat_of_zero_le (show 0 ≤ at_ by omega)
        exact run_fuse_pos w0 n hn x no co g k hk hk2 T b6 c6 b7 c7 a8 n8 c8 lnow lsafe lw lf ld ls f st wr Q at_ bo bn bc bl ko kn kc kl tr hop0 hM hS hwk hsk hbn hkn hld qq hqq
  · exact run_on w0 n hn x no co g k hk hk2 T b6 c6 b7 c7 a8 n8 c8 lnow lsafe lw lf ld ls f st wr Q at_ bo bn bc bl ko kn kc kl tr hop0 hM hS hwk hsk hbn hkn
  · exact run_off w0 n hn x no co g k hk hk2 T b6 c6 b7 c7 a8 n8 c8 lnow lsafe lw lf ld ls f st wr Q at_ bo bn bc bl ko kn kc kl tr hop0 hM hS hwk hsk hbn hkn
  · exact run_none2 w0 n hn x no co g k hk hk2 T b6 c6 b7 c7 a8 n8 c8 lnow lsafe lw lf ld ls f st wr Q kk at_ bo bn bc bl ko kn kc kl tr hop0 hM hS hwk hsk hbn hkn hkk

theorem and_leR (a : Int) (m : Nat) (hm : m < 9223372036854775808) : ∃ i : Nat, i ≤ m ∧ bits .and .i64 a (m : Int) = (i : Int) := by
  have hle : (BitVec.ofInt 64 a &&& BitVec.ofInt 64 (m : Int)).toNat ≤ m := by
    rw [BitVec.toNat_and]
    refine Nat.le_trans Nat.and_le_right ?_
    rw [BitVec.ofInt_natCast, BitVec.toNat_ofNat]
    exact Nat.mod_le _ _
  refine ⟨(BitVec.ofInt 64 a &&& BitVec.ofInt 64 (m : Int)).toNat, hle, ?_⟩
  show IntKind.i64.wrap ((BitVec.ofInt 64 a &&& BitVec.ofInt 64 (m : Int)).toNat : Int) = _
  rw [IntKind.wrap_i64]
  omega
theorem nSecN {n : Nat} (h : n ≤ 15) : nSec (n : Int) = n := by unfold nSec; rw [if_neg (by omega), if_neg (by omega)]; omega

set_option maxRecDepth 100000 in
set_option maxHeartbeats 8000000 in
theorem walk_DiskRuns (ni : Int) (oa : Option Addr) (no co : Nat) (os : List OpV) (w : World) (_hni : (Lit.int .i64 ni).wf = true) (ho : IsOps4 w oa no os) :
    Calls Try.prog 3 #[.int .i64 ni, .slice oa no co] w fun e w' => e = .returned (.bool true) ∧ Below w.heap.size w w' := by
  obtain ⟨n, hn, hna⟩ := and_leR ni 15 (by omega)
  have hna' : bits BinOp.and IntKind.i64 ni 15 = (n : Int) := hna
  obtain ⟨ho1, ho2, ho3, ho4⟩ := ho
  have HO1 : Hid (os.length = no) := ho1
  have HO3 : Hid (oa = none → no = 0) := ho3
  have HO4 : Hid (∀ x, oa = some x → ∀ i (h : i < os.length), OpAt w x i os[i]) := ho4
  unfold maxLen at ho2
  have hmk := run_makeL n hn
  clear ho1 ho3 ho4 hna
  go_enter Try.func3, Try.ntmps3
  go_wp2_with fail
  refine (head4_any _).mono ?_
  rintro e w1 ⟨rfl, hb1⟩
  have HB1 : Hid (Below w.heap.size w w1) := hb1
  clear hb1
  go_wp2_with fail
  refine (new_new (n : Int) n (nSecN hn) w w.heap.size w1 HB1.out (Nat.le_refl _)).mono ?_
  rintro e w2 ⟨g, f, rfl, hN2, -, -⟩
  have HN2 : Hid (NewAt w w.heap.size w2 g f _) := hN2
  clear hN2 hna'
  have hbe3 : Below w2.heap.size w2 (((w2.alloc (.cells (blanksL n) 33)).alloc (.cells (blanksL n) 33)).alloc (.cells #[] 30)) := (((Below.refl _ _).alloc (Nat.le_refl _) _).alloc (by simp) _).alloc (by simp; omega) _
  have hmine : ∀ q, w2.heap.size ≤ q → Mine1 w.heap.size f q := fun q hq => ⟨Nat.le_trans HN2.out.lt hq, fun e => by have := HN2.out.at_.hasLt q e; omega⟩
  have HM3 : Hid (Mem w (((w2.alloc (.cells (blanksL n) 33)).alloc (.cells (blanksL n) 33)).alloc (.cells #[] 30)) g n w2.heap.size n (w2.heap.size + 1) n (some ⟨w2.heap.size + 1 + 1, 0, none⟩) 0 0 ⟨List.replicate n (ByteArray.empty, false), List.replicate n (ByteArray.empty, false), [], 0, false, 0⟩ f ⟨List.replicate n (zeros, false), List.replicate n (zeros, false), [], 0, false, 0⟩) := by
    refine ⟨HN2.out.below hbe3, blanksL_secs (((Blk.new w2 _ _).alloc _).alloc _) (hmine _ (Nat.le_refl _)) hn, blanksL_secs ?_ (hmine _ (by omega)) hn, ⟨rfl, Nat.le_refl _, Nat.zero_le _, fun e => (by cases e), fun a e => ?_⟩, fun o ho => by cases ho⟩
    · have := (Blk.new (w2.alloc (.cells (blanksL n) 33)) (blanksL n) 33).alloc (.cells #[] 30)
      simpa using this
    · cases e
      have := Blk.new ((w2.alloc (.cells (blanksL n) 33)).alloc (.cells (blanksL n) 33)) #[] 30
      exact ⟨_, rfl, hmine _ (by omega), #[], by simpa using this, fun j u hj => by simp [ov] at hj⟩
  have HS3 : Hid (Sim n ⟨List.replicate n (ByteArray.empty, false), List.replicate n (ByteArray.empty, false), [], 0, false, 0⟩ ⟨List.replicate n (zeros, false), List.replicate n (zeros, false), [], 0, false, 0⟩) := by
    have hr : RowRel (List.replicate n (ByteArray.empty, false)) (List.replicate n (zeros, false)) := by
      refine ⟨by simp, fun i s p hs hp => ?_⟩
      have h1 := List.mem_of_getElem? hs
      have h2 := List.mem_of_getElem? hp
      rw [(List.mem_replicate.1 h1).2, (List.mem_replicate.1 h2).2]
      exact ⟨rfl, by show (0 : Nat) ≤ 512; omega, fun _ => rfl⟩
    exact ⟨by simp, by simp, hr, hr, WRel.nil, rfl, rfl, fun _ => rfl, by show (0 : Nat) < _; omega⟩
  clear hbe3 hmine HN2
  go_wp2_with fail
  refine wp_loop (RI w n oa no co g) Rmu ?_ ?_
  · exact ⟨0, _, _, _, _, _, _, _, _, f, _, ⟨rfl, rfl, rfl, rfl, rfl, rfl, rfl, rfl, rfl, rfl, rfl, rfl, rfl⟩, by omega, by omega, HM3.out, HS3.out, by simp, by show (0 : Nat) ≤ 0; omega⟩
  · clear HM3 HS3 hmk
    rintro a wr ⟨k, b6, c6, b7, c7, a8, n8, c8, ⟨lnow, lsafe, lw, lf, ld, ls⟩, f, st, hsl, hk, hkn, hM, hS, hwk, hsk⟩
    have hmu : Rmu a wr = 50 - k := by unfold Rmu; rw [hsl.2.2.2.2.2.2.2.2.2.2.2.2]; simp [intOf]
    rw [hmu]
    have hlit := hsl.lit
    generalize (fun i => a.tmps.getD i undef) = T at hlit
    subst hlit
    clear hsl hmu
    by_cases hlt : k < no ∧ k < 50
    · obtain ⟨x, rfl⟩ : ∃ x, oa = some x := by
        cases oa with
        | none => have := HO3.out rfl; omega
        | some x => exact ⟨x, rfl⟩
      have hop0 := HO4.out x rfl k (by rw [HO1.out]; exact hlt.1)
      generalize os[k]'(by rw [HO1.out]; exact hlt.1) = o at hop0
      obtain ⟨kk, at_, bo, bn, bc, bl, ko, kn, kc, kl, tr⟩ := o
      exact run_any w n hn x no co g k hlt.1 hlt.2 T b6 c6 b7 c7 a8 n8 c8 lnow lsafe lw lf ld ls f st wr _ kk at_ bo bn bc bl ko kn kc kl tr hop0 hM hS hwk hsk
    · have HMf : Hid (Mem w wr g n b6 c6 b7 c7 a8 n8 c8 _ f st) := hM
      clear hM hS hwk hsk
      unfold fr
      rcases (show no ≤ k ∨ (k < no ∧ 50 ≤ k) by omega) with hx | ⟨hx, hx'⟩
      · have hd1 : decide ((k : Int) < (no : Int)) = false := decide_eq_false (by omega)
        go_wp2_with fail
        go_ret
        exact ⟨rfl, HMf.out.dk.bel⟩
      · have hd1 : decide ((k : Int) < (no : Int)) = true := decide_eq_true (by omega)
        have hd2 : decide ((k : Int) < 50) = false := decide_eq_false (by omega)
        go_wp2_with fail
        go_ret
        exact ⟨rfl, HMf.out.dk.bel⟩
end Go.Proofs.Ytpojpmkflgmgkaa

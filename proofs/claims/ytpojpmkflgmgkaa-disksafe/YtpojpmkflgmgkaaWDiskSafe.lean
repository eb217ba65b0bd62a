/- DiskSafe: the walk of the law's Go text. -/
import Derived.Test.YtpojpmkflgmgkaaDisk8
import Derived.Test.YtpojpmkflgmgkaaOps4
namespace Go.Proofs.Ytpojpmkflgmgkaa
open Go.ChangeShapes Go.WideShapes Go.ChangeAt Go.RowKit

theorem nSec8s : nSec 8 = 8 := by decide
theorem pad_takeS {l : List UInt8} {n : Nat} (h : n = l.length) : (pad l).take n = l := by subst h; unfold pad; exact List.take_left
theorem cell_on {w : World} {a : Addr} {i j : Nat} {v : Value} (hj : 0 < j) (h : w.cell? (a.add (i + j)) = some v) : w.cell? ⟨(a.add i).block, (a.add i).off + j, none⟩ = some v := by
  unfold Addr.add at h ⊢
  rw [if_neg (by omega)] at h
  split
  · rename_i h0; subst h0; simpa using h
  · simpa [Nat.add_assoc] using h
theorem blk_add (a : Addr) (i : Nat) : (a.add i).block = a.block := by unfold Addr.add; split <;> rfl

/-- What is kept while others are written: the seventh sector is safe. -/
structure Keeps (la : List UInt8) (k : Nat) (now safe : List Sec) (waits : List (Nat × List UInt8)) (steps : Nat) : Prop where
  len : now.length = 8
  n7 : now[7]? = some (pad la, false)
  s7 : safe[7]? = some (pad la, false)
  no : ∀ p ∈ waits, p.1 ≠ 7
  wl : waits.length ≤ k
  sl : steps ≤ 2 + 2 * k
theorem Keeps.write {la : List UInt8} {k i : Nat} {now safe : List Sec} {waits : List (Nat × List UInt8)} {steps : Nat} (h : Keeps la k now safe waits steps) (b : List UInt8) (hi : i ≠ 7) : Keeps la (k + 1) (now.set i (b, false)) safe (waits ++ [(i, b)]) (steps + 1) :=
  ⟨by simp [h.len], by rw [List.getElem?_set, if_neg hi]; exact h.n7, h.s7, fun p hp => by
    simp only [List.mem_append, List.mem_singleton] at hp
    rcases hp with hp | rfl
    · exact h.no p hp
    · exact hi, by simp; have := h.wl; omega, by have := h.sl; omega⟩
theorem Keeps.more {la : List UInt8} {k : Nat} {now safe : List Sec} {waits : List (Nat × List UInt8)} {steps : Nat} (h : Keeps la k now safe waits steps) : Keeps la (k + 1) now safe waits steps :=
  ⟨h.len, h.n7, h.s7, h.no, by have := h.wl; omega, by have := h.sl; omega⟩

set_option maxRecDepth 10000 in
set_option maxHeartbeats 4000000 in
theorem safe_main (aa : Option Addr) (na ca : Nat) (la : List UInt8) (oa : Option Addr) (no co : Nat) (os : List OpV) (ka : Option Addr) (nk ck : Nat) (lk : List Bool) (tear : Int) (w : World) (ha : Src w (.slice aa na ca) la) (h1 : na ≤ 512) (l1 : na = la.length) (ho : IsOps4 w oa no os) (hk : Bools w ka nk lk) (hkm : nk ≤ maxLen) (hka : ∀ ad, ka = some ad → 0 < nk → ad.block < w.heap.size) :
    Calls Try.prog 4 #[.slice aa na ca, .slice oa no co, .slice ka nk ck, .int .i64 tear] w fun e w' => e = .returned (.bool true) ∧ Below w.heap.size w w' := by
  have HA : Hid (Src w (.slice aa na ca) la) := ha
  have HK : Hid (Bools w ka nk lk) := hk
  have HKA : Hid (∀ ad, ka = some ad → 0 < nk → ad.block < w.heap.size) := hka
  have HKM : Hid (nk ≤ maxLen) := hkm
  obtain ⟨ho1, ho2, ho3, ho4⟩ := ho
  have HO1 : Hid (os.length = no) := ho1
  have HO4 : Hid (∀ x, oa = some x → ∀ i (h : i < os.length), OpAt w x i os[i]) := ho4
  unfold maxLen at ho2
  have q1 : decide (512 < (na : Int)) = false := decide_eq_false (by omega)
  have m1 : la.length ≤ na := by omega
  have k1 : na ≤ la.length := by omega
  clear ha l1 ho1 ho4 hk hka hkm
  go_enter Try.func4, Try.ntmps4
  go_wp2_with fail
  refine (head4_any _).mono ?_
  rintro e w1 ⟨rfl, hb1⟩
  have HB1 : Hid (Below w.heap.size w w1) := hb1
  clear hb1
  go_wp2_with fail
  refine (new_new 8 8 nSec8s w w.heap.size w1 HB1.out (Nat.le_refl _)).mono ?_
  rintro e w2 ⟨g, f, rfl, hN2, -, -⟩
  have HN2 : Hid (NewAt w w.heap.size w2 g f _) := hN2
  clear hN2
  go_wp2_with fail
  refine (write_new 7 aa na ca la HN2.out (by simp) (HA.out.below HN2.out.bel) (by omega) (by omega) (by simp)).mono ?_
  rintro e w3 ⟨rfl, f3, hN3, -⟩
  have HN3 : Hid (NewAt w w.heap.size w3 g f3 _) := hN3
  clear hN3 HN2
  go_wp2_with fail
  refine (sync_new HN3.out (by omega)).mono ?_
  rintro e w4 ⟨rfl, hN4, -⟩
  have HN4 : Hid (NewAt w w.heap.size w4 g f3 _) := hN4
  clear hN4 HN3
  have HK0 : Hid (Keeps la 0 ((List.replicate 8 (zeros, false)).set 7 (pad la, false)) ((List.replicate 8 (zeros, false)).set 7 (pad la, false)) [] (0 + 1 + 1)) :=
    ⟨by simp, by rw [List.getElem?_set, if_pos rfl, if_pos (by simp)], by rw [List.getElem?_set, if_pos rfl, if_pos (by simp)], fun p hp => (by cases hp), by simp, by omega⟩
  go_wp2_with fail
  go_loopw [10] (fun vi wr => ∃ (k : Nat) (f : Foot) (now safe : List Sec) (waits : List (Nat × List UInt8)) (steps : Nat), vi = .int .i64 (k : Int) ∧ k ≤ 20 ∧ k ≤ no ∧ NewAt w w.heap.size wr g f ⟨now, safe, waits, 0, false, steps⟩ ∧ Keeps la k now safe waits steps) (fun vi _ => 20 - (intOf vi).toNat)
  case atStart => exact ⟨0, f3, _, _, _, _, rfl, by omega, by omega, HN4.out, HK0.out⟩
  case round =>
    obtain ⟨k, f, now, safe, waits, steps, rfl, hk, hkn, hN, hKp⟩ := hrel
    have HN : Hid (NewAt w w.heap.size wr g f _) := hN
    have HKp : Hid (Keeps la k now safe waits steps) := hKp
    clear hN hKp
    by_cases hlt : k < no ∧ k < 20
    · obtain ⟨hlt1, hlt2⟩ := hlt
      have hd1 : decide ((k : Int) < (no : Int)) = true := decide_eq_true (by omega)
      have hd2 : decide ((k : Int) < 20) = true := decide_eq_true (by omega)
      obtain ⟨x, rfl⟩ : ∃ x, oa = some x := by
        cases oa with
        | none => have := ho3 rfl; omega
        | some x => exact ⟨x, rfl⟩
      have hop0 := HO4.out x rfl k (by rw [HO1.out]; exact hlt1)
      generalize os[k]'(by rw [HO1.out]; exact hlt1) = o at hop0
      have hxb : x.block < w.heap.size := by have := cell_lt hop0.c0; rw [blk_add] at this; exact this
      have hop := hop0.below HN.out.bel
      obtain ⟨kk, at_, bo, bn, bc, bl, ko, kn, kc, kl, tr⟩ := o
      have e0 : wr.cell? (x.add (k * 5)) = some (.int .i64 kk) := hop.c0
      have e1 : wr.cell? ⟨(x.add (k * 5)).block, (x.add (k * 5)).off + 1, none⟩ = some (.int .i64 at_) := cell_on (by omega) hop.c1
      have e2 : wr.cell? ⟨(x.add (k * 5)).block, (x.add (k * 5)).off + 2, none⟩ = some (.slice bo bn bc) := cell_on (by omega) hop.c2
      have hsrc : Hid (Src wr (.slice bo bn bc) bl) := hop.src
      have hbl : bl.length = bn := hop.len
      have hbc : bn ≤ 9223372036854775807 := by have h1 := hop.bn; have h2 := hop.bc; unfold maxLen at h2; simp only at h1 h2; omega
      have hat64 := bounds_i64 hop.w1
      have hop0' : Hid (OpAt w x k ⟨kk, at_, bo, bn, bc, bl, ko, kn, kc, kl, tr⟩) := hop0
      simp only at hat64
      clear hop hop0
      have hfb : ¬ f.has (x.add (k * 5)).block := fun e => by have := HN.out.own _ e; rw [blk_add] at this; omega
      by_cases hw : at_ ≠ 7 ∧ bn ≤ 512
      · obtain ⟨hw1, hw2⟩ := hw
        have hd3 : (at_ != 7) = true := by rw [bne_iff_ne]; exact hw1
        have hd4 : decide ((bn : Int) ≤ 512) = true := decide_eq_true (by omega)
        have y1 := cellC (S := f.has) (W0 := wr.drew) e1 hfb
        have y2 := cellC (S := f.has) (W0 := wr.drew) e2 hfb
        by_cases hin : 0 ≤ at_ ∧ at_ < 8
        · obtain ⟨i, rfl⟩ := Int.eq_ofNat_of_zero_le hin.1
          have hc := write_new i bo bn bc bl (HN.out.below (w' := wr.drew) (Below.refl _ _).drew) (by rw [HKp.out.len]; omega) (by exact hsrc.out) (by omega) (by have := HKp.out.sl; omega) (by have := HKp.out.wl; omega)
          have HC : Hid (Calls _ _ _ _ _) := hc
          have hKp' := HKp.out.write (pad bl) (i := i) (by omega)
          have HKp' : Hid (Keeps _ _ _ _ _ _) := hKp'
          clear hc hKp'
          go_wp2_with fail
          haveI nE := cls_chg f.has wr.drew
          refine wp_region_seg (Chg f.has wr.drew) (by kernel_rfl) ?_
          refine wpAnyH_seg (by kernel_rfl) (fun _ _ _ h => h) [0, 1, 2, 3, 4, 5, 6, 7, 8, 9, 10] 1 _ _ _ (Chg.refl _ _) (by kernel_rfl) ?_
          simp only [opsAt, List.getElem?_toArray, List.getElem?_cons_zero, List.getElem?_cons_succ, List.cons_append, List.nil_append]
          repeat (go_big_quiet_step (fail))
          refine wpQuiet_nil ?_
          clear y1 y2 nE
          refine wpAnyH_all (rs := [11]) (fuel := 0) (by kernel_rfl) (by simp) fun j hj => ?_
          obtain rfl : j = 11 := by simpa using hj
          refine wpOp_enter 65 rfl (by kernel_rfl) rfl (f := 12) (args := #[dptr g, .int .i64 (i : Int), .slice bo bn bc]) (by kernel_rfl) HC.out ?_
          rintro e w5 ⟨rfl, f5, hN5, hT5⟩
          refine ⟨_, rfl, hT5.chg, ?_⟩
          refine wpAnyH_done (by kernel_rfl) (NoPanic.normal ?_) 0
          have HN5 : Hid (NewAt w w.heap.size w5 g f5 _) := hN5
          have f0 : w5.cell? (x.add (k * 5)) = some (.int .i64 kk) := (hop0'.out.below hN5.bel).c0
          clear hN5 hT5 e0 e1 e2
          by_cases hk2 : kk = 2
          · subst hk2
            go_wp2_with fail
            refine (sync_new HN5.out (by have := HKp'.out.sl; omega)).mono ?_
            rintro e w6 ⟨rfl, hN6, -⟩
            have HN6 : Hid (NewAt w w.heap.size w6 g _ _) := hN6
            clear hN6 f0
            go_wp2_with fail
            go_roundw
            case rel => exact ⟨k + 1, _, _, _, _, _, by go_num, by omega, by omega, HN6.out, ⟨HKp'.out.len, HKp'.out.n7, HKp'.out.n7, fun p hp => (by cases hp), by simp, by have := HKp.out.sl; omega⟩⟩
            case measure => simp [intOf]; omega
          · have hk2' : (kk == 2) = false := beq_eq_false_iff_ne.2 hk2
            go_wp2_with fail
            go_roundw
            case rel => exact ⟨k + 1, _, _, _, _, _, by go_num, by omega, by omega, HN5.out, HKp'.out⟩
            case measure => simp [intOf]; omega
        · have hc := write_arg f ⟨now, safe, waits, 0, false, steps⟩ at_ bo bn bc wr.drew (HN.out.below (w' := wr.drew) (Below.refl _ _).drew).at_ (.inl (by show ¬ (0 ≤ at_ ∧ at_ < (now.length : Int)); rw [HKp.out.len]; exact hin)) (by unfold maxLen; omega)
          rw [HN.out.ptr] at hc
          have HC : Hid (Calls _ _ _ _ _) := hc
          have HKp' : Hid (Keeps _ _ _ _ _ _) := HKp.out.more
          clear hc
          go_wp2_with fail
          haveI nE := cls_chg f.has wr.drew
          refine wp_region_seg (Chg f.has wr.drew) (by kernel_rfl) ?_
          refine wpAnyH_seg (by kernel_rfl) (fun _ _ _ h => h) [0, 1, 2, 3, 4, 5, 6, 7, 8, 9, 10] 1 _ _ _ (Chg.refl _ _) (by kernel_rfl) ?_
          simp only [opsAt, List.getElem?_toArray, List.getElem?_cons_zero, List.getElem?_cons_succ, List.cons_append, List.nil_append]
          repeat (go_big_quiet_step (fail))
          refine wpQuiet_nil ?_
          clear y1 y2 nE
          refine wpAnyH_all (rs := [11]) (fuel := 0) (by kernel_rfl) (by simp) fun j hj => ?_
          obtain rfl : j = 11 := by simpa using hj
          refine wpOp_enter 65 rfl (by kernel_rfl) rfl (f := 12) (args := #[dptr g, .int .i64 at_, .slice bo bn bc]) (by kernel_rfl) HC.out ?_
          rintro e w5 ⟨rfl, hw5⟩
          refine ⟨_, rfl, by rw [hw5]; exact Chg.refl _ _, ?_⟩
          refine wpAnyH_done (by kernel_rfl) (NoPanic.normal ?_) 0
          rw [hw5]
          clear hw5 w5
          have HN5 : Hid (NewAt w w.heap.size wr.drew g f _) := HN.out.below (Below.refl _ _).drew
          have f0 : wr.drew.cell? (x.add (k * 5)) = some (.int .i64 kk) := e0
          clear e0 e1 e2
          by_cases hk2 : kk = 2
          · subst hk2
            go_wp2_with fail
            refine (sync_new HN5.out (by have := HKp'.out.sl; omega)).mono ?_
            rintro e w6 ⟨rfl, hN6, -⟩
            have HN6 : Hid (NewAt w w.heap.size w6 g _ _) := hN6
            clear hN6 f0
            go_wp2_with fail
            go_roundw
            case rel => exact ⟨k + 1, _, _, _, _, _, by go_num, by omega, by omega, HN6.out, ⟨HKp'.out.len, HKp'.out.n7, HKp'.out.n7, fun p hp => (by cases hp), by simp, by have := HKp.out.sl; omega⟩⟩
            case measure => simp [intOf]; omega
          · have hk2' : (kk == 2) = false := beq_eq_false_iff_ne.2 hk2
            go_wp2_with fail
            go_roundw
            case rel => exact ⟨k + 1, _, _, _, _, _, by go_num, by omega, by omega, HN5.out, HKp'.out⟩
            case measure => simp [intOf]; omega
      · have HN5 : Hid (NewAt w w.heap.size wr g f _) := HN.out
        have HKp' : Hid (Keeps _ _ _ _ _ _) := HKp.out.more
        have f0 := e0
        rcases (show at_ = 7 ∨ (at_ ≠ 7 ∧ 512 < bn) by omega) with h7 | ⟨h7, h8⟩
        · subst h7
          by_cases hk2 : kk = 2
          · subst hk2
            go_wp2_with fail
            refine (sync_new HN5.out (by have := HKp'.out.sl; omega)).mono ?_
            rintro e w6 ⟨rfl, hN6, -⟩
            have HN6 : Hid (NewAt w w.heap.size w6 g _ _) := hN6
            clear hN6 f0
            go_wp2_with fail
            go_roundw
            case rel => exact ⟨k + 1, _, _, _, _, _, by go_num, by omega, by omega, HN6.out, ⟨HKp'.out.len, HKp'.out.n7, HKp'.out.n7, fun p hp => (by cases hp), by simp, by have := HKp.out.sl; omega⟩⟩
            case measure => simp [intOf]; omega
          · have hk2' : (kk == 2) = false := beq_eq_false_iff_ne.2 hk2
            go_wp2_with fail
            go_roundw
            case rel => exact ⟨k + 1, _, _, _, _, _, by go_num, by omega, by omega, HN5.out, HKp'.out⟩
            case measure => simp [intOf]; omega
        · have hd3 : (at_ != 7) = true := by rw [bne_iff_ne]; exact h7
          have hd4 : decide ((bn : Int) ≤ 512) = false := decide_eq_false (by omega)
          by_cases hk2 : kk = 2
          · subst hk2
            go_wp2_with fail
            refine (sync_new HN5.out (by have := HKp'.out.sl; omega)).mono ?_
            rintro e w6 ⟨rfl, hN6, -⟩
            have HN6 : Hid (NewAt w w.heap.size w6 g _ _) := hN6
            clear hN6 f0
            go_wp2_with fail
            go_roundw
            case rel => exact ⟨k + 1, _, _, _, _, _, by go_num, by omega, by omega, HN6.out, ⟨HKp'.out.len, HKp'.out.n7, HKp'.out.n7, fun p hp => (by cases hp), by simp, by have := HKp.out.sl; omega⟩⟩
            case measure => simp [intOf]; omega
          · have hk2' : (kk == 2) = false := beq_eq_false_iff_ne.2 hk2
            go_wp2_with fail
            go_roundw
            case rel => exact ⟨k + 1, _, _, _, _, _, by go_num, by omega, by omega, HN5.out, HKp'.out⟩
            case measure => simp [intOf]; omega
    · have hx : no ≤ k ∨ (k < no ∧ 20 ≤ k) := by omega
      clear hlt
      obtain ⟨S, HS⟩ : ∃ S, Hid (staysTo lk tear safe waits waits.length = S ∧ S[7]? = some (pad la, false)) := ⟨_, rfl, by rw [staysTo_out _ _ _ _ _ HKp.out.no]; exact HKp.out.s7⟩
      rcases hx with hx | ⟨hx, hx'⟩
      · have hd1 : decide ((k : Int) < (no : Int)) = false := decide_eq_false (by omega)
        go_wp2_with fail
        refine (on_new ka nk ck lk tear HN.out (HK.out.below HN.out.bel) (fun ad e e1 e2 => by have h1 := HN.out.own _ e2; have h2 := HKA.out ad e e1; omega) HKM.out S HS.out.1).mono ?_
        rintro e w6 ⟨rfl, hN6, -⟩
        have HN6 : Hid (NewAt w w.heap.size w6 g f _) := hN6
        clear hN6 HN
        go_wp2_with fail
        refine (read_new 7 HN6.out (pad la) HS.out.2).mono ?_
        rintro e w7 ⟨rfl, hN7, hB7, hnb7, -, -⟩
        have HNB : Hid (¬ f.has w6.heap.size) := hnb7
        have HN7 : Hid (NewAt w w.heap.size w7 g f _) := hN7
        have HB7 : Hid (Blk w7 w6.heap.size (bv (pad la)).toArray 5) := hB7
        clear hN7 hB7 HN6 hnb7
        have hpl : (pad la).length = 512 := pad_length (by omega)
        have i1 := (Blk.src (w := w7.drew) (k := na) (c := 512) HB7.out.drew (by omega) (by omega) (by unfold maxLen; omega)).strE
        have i2 := (HA.out.below HN7.out.bel.drew).strE
        have htk : (pad la).take na = la := pad_takeS (by omega)
        rw [htk] at i1
        have HPL : Hid ((pad la).length = 512) := hpl
        clear htk hpl
        go_wp2_with fail
        refine wp_region_ext (by kernel_rfl) ?_
        haveI n1 := cls_ext w7.drew
        refine wpAnyH_seg (by kernel_rfl) (fun _ _ _ h => h) [0, 1, 2, 3, 4, 5, 6, 7, 8, 9, 10, 11, 12, 13, 14, 15, 16] 0 _ _ _ (Ext.refl _) (by kernel_rfl) ?_
        simp only [opsAt, List.getElem?_toArray, List.getElem?_cons_zero, List.getElem?_cons_succ, List.cons_append, List.nil_append]
        repeat (go_big_quiet_step (fail))
        refine wpQuiet_nil ?_
        refine wpAnyH_done (by kernel_rfl) (NoPanic.normal ?_) 0
        clear n1 i1 i2
        go_wp2_with fail
        refine (off_new (HN7.out.below (w' := w7.drew) (Below.refl _ _).drew)).mono ?_
        rintro e w8 ⟨rfl, hN8, hT8⟩
        have HN8 : Hid (NewAt w w.heap.size w8 g f _) := hN8
        have HB8 : Hid (Blk w8 w6.heap.size (bv (pad la)).toArray 5) := Blk.chg HB7.out.drew hT8.chg HNB.out
        clear hN8 hT8 HN7 HB7
        go_wp2_with fail
        refine (on_new none 0 0 [] (-1) HN8.out (Bools.nil _) (fun ad e _ => by cases e) (Nat.zero_le _) S rfl).mono ?_
        rintro e w9 ⟨rfl, hN9, hT9⟩
        have HN9 : Hid (NewAt w w.heap.size w9 g f _) := hN9
        have HB9 : Hid (Blk w9 w6.heap.size (bv (pad la)).toArray 5) := Blk.chg HB8.out hT9.chg HNB.out
        clear hN9 hT9 HN8 HB8
        go_wp2_with fail
        refine (read_new 7 HN9.out (pad la) HS.out.2).mono ?_
        rintro e w10 ⟨rfl, hN10, hB10, -, hb10, -⟩
        have HN10 : Hid (NewAt w w.heap.size w10 g f _) := hN10
        have htk : (pad la).take 512 = pad la := List.take_of_length_le (by rw [HPL.out]; omega)
        have j1 := (Blk.src (w := w10) (k := 512) (c := 512) hB10 (by rw [HPL.out]; omega) (by omega) (by unfold maxLen; omega)).str
        have j2 := (Blk.src (w := w10) (k := 512) (c := 512) (HB9.out.of (hb10.block _ HB9.out.lt)) (by rw [HPL.out]; omega) (by omega) (by unfold maxLen; omega)).str
        rw [htk] at j1 j2
        clear hN10 hB10 hb10 HN9 HB9 htk
        go_wp2
        go_ret
        exact ⟨rfl, HN10.out.bel⟩
      · have hd1 : decide ((k : Int) < (no : Int)) = true := decide_eq_true (by omega)
        have hd2 : decide ((k : Int) < 20) = false := decide_eq_false (by omega)
        go_wp2_with fail
        refine (on_new ka nk ck lk tear HN.out (HK.out.below HN.out.bel) (fun ad e e1 e2 => by have h1 := HN.out.own _ e2; have h2 := HKA.out ad e e1; omega) HKM.out S HS.out.1).mono ?_
        rintro e w6 ⟨rfl, hN6, -⟩
        have HN6 : Hid (NewAt w w.heap.size w6 g f _) := hN6
        clear hN6 HN
        go_wp2_with fail
        refine (read_new 7 HN6.out (pad la) HS.out.2).mono ?_
        rintro e w7 ⟨rfl, hN7, hB7, hnb7, -, -⟩
        have HNB : Hid (¬ f.has w6.heap.size) := hnb7
        have HN7 : Hid (NewAt w w.heap.size w7 g f _) := hN7
        have HB7 : Hid (Blk w7 w6.heap.size (bv (pad la)).toArray 5) := hB7
        clear hN7 hB7 HN6 hnb7
        have hpl : (pad la).length = 512 := pad_length (by omega)
        have i1 := (Blk.src (w := w7.drew) (k := na) (c := 512) HB7.out.drew (by omega) (by omega) (by unfold maxLen; omega)).strE
        have i2 := (HA.out.below HN7.out.bel.drew).strE
        have htk : (pad la).take na = la := pad_takeS (by omega)
        rw [htk] at i1
        have HPL : Hid ((pad la).length = 512) := hpl
        clear htk hpl
        go_wp2_with fail
        refine wp_region_ext (by kernel_rfl) ?_
        haveI n1 := cls_ext w7.drew
        refine wpAnyH_seg (by kernel_rfl) (fun _ _ _ h => h) [0, 1, 2, 3, 4, 5, 6, 7, 8, 9, 10, 11, 12, 13, 14, 15, 16] 0 _ _ _ (Ext.refl _) (by kernel_rfl) ?_
        simp only [opsAt, List.getElem?_toArray, List.getElem?_cons_zero, List.getElem?_cons_succ, List.cons_append, List.nil_append]
        repeat (go_big_quiet_step (fail))
        refine wpQuiet_nil ?_
        refine wpAnyH_done (by kernel_rfl) (NoPanic.normal ?_) 0
        clear n1 i1 i2
        go_wp2_with fail
        refine (off_new (HN7.out.below (w' := w7.drew) (Below.refl _ _).drew)).mono ?_
        rintro e w8 ⟨rfl, hN8, hT8⟩
        have HN8 : Hid (NewAt w w.heap.size w8 g f _) := hN8
        have HB8 : Hid (Blk w8 w6.heap.size (bv (pad la)).toArray 5) := Blk.chg HB7.out.drew hT8.chg HNB.out
        clear hN8 hT8 HN7 HB7
        go_wp2_with fail
        refine (on_new none 0 0 [] (-1) HN8.out (Bools.nil _) (fun ad e _ => by cases e) (Nat.zero_le _) S rfl).mono ?_
        rintro e w9 ⟨rfl, hN9, hT9⟩
        have HN9 : Hid (NewAt w w.heap.size w9 g f _) := hN9
        have HB9 : Hid (Blk w9 w6.heap.size (bv (pad la)).toArray 5) := Blk.chg HB8.out hT9.chg HNB.out
        clear hN9 hT9 HN8 HB8
        go_wp2_with fail
        refine (read_new 7 HN9.out (pad la) HS.out.2).mono ?_
        rintro e w10 ⟨rfl, hN10, hB10, -, hb10, -⟩
        have HN10 : Hid (NewAt w w.heap.size w10 g f _) := hN10
        have htk : (pad la).take 512 = pad la := List.take_of_length_le (by rw [HPL.out]; omega)
        have j1 := (Blk.src (w := w10) (k := 512) (c := 512) hB10 (by rw [HPL.out]; omega) (by omega) (by unfold maxLen; omega)).str
        have j2 := (Blk.src (w := w10) (k := 512) (c := 512) (HB9.out.of (hb10.block _ HB9.out.lt)) (by rw [HPL.out]; omega) (by omega) (by unfold maxLen; omega)).str
        rw [htk] at j1 j2
        clear hN10 hB10 hb10 HN9 HB9 htk
        go_wp2
        go_ret
        exact ⟨rfl, HN10.out.bel⟩

set_option maxHeartbeats 4000000 in
theorem walk_DiskSafe (aa : Option Addr) (na ca : Nat) (za : List Int) (oa : Option Addr) (no co : Nat) (os : List OpV) (ka : Option Addr) (nk ck : Nat) (lk : List Bool) (tear : Int) (w : World) (ha : IsRow .u8 w aa na ca za) (ho : IsOps4 w oa no os) (hk : Bools w ka nk lk ∧ nk ≤ maxLen) (_ht : (Lit.int .i64 tear).wf = true) :
    Calls Try.prog 4 #[.slice aa na ca, .slice oa no co, .slice ka nk ck, .int .i64 tear] w fun e w' => e = .returned (.bool true) ∧ Below w.heap.size w w' := by
  obtain ⟨la, sa, la'⟩ := isRow_src ha
  by_cases h : na ≤ 512
  · exact safe_main aa na ca la oa no co os ka nk ck lk tear w sa h la'.symm ho hk.1 hk.2 (fun ad e hp => hk.1.lt e hp)
  · clear sa la' ha ho hk
    have q1 : decide (512 < (na : Int)) = true := decide_eq_true (by omega)
    go_enter Try.func4, Try.ntmps4
    go_wp2_with fail
    refine (head4_any _).mono ?_
    rintro e w1 ⟨rfl, hb1⟩
    go_wp2_with fail
    go_ret
    exact ⟨rfl, hb1⟩
end Go.Proofs.Ytpojpmkflgmgkaa

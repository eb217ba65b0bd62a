/- DiskAll: the walk of the law's Go text. -/
import Derived.Test.YtpojpmkflgmgkaaAll1
namespace Go.Proofs.Ytpojpmkflgmgkaa
open Go.ChangeShapes Go.WideShapes Go.ChangeAt Go.RowKit

theorem nSec8a : nSec 8 = 8 := by decide
theorem cell_onA {w : World} {a : Addr} {i j : Nat} {v : Value} (hj : 0 < j) (h : w.cell? (a.add (i + j)) = some v) : w.cell? ⟨(a.add i).block, (a.add i).off + j, none⟩ = some v := by
  unfold Addr.add at h ⊢
  rw [if_neg (by omega)] at h
  split
  · rename_i h0; subst h0; simpa using h
  · simpa [Nat.add_assoc] using h

set_option maxRecDepth 10000 in
set_option maxHeartbeats 8000000 in
theorem walk_DiskAll (oa : Option Addr) (no co : Nat) (os : List OpV) (w : World) (ho : IsOps4 w oa no os) :
    Calls Try.prog 5 #[.slice oa no co] w fun e w' => e = .returned (.bool true) ∧ Below w.heap.size w w' := by
  obtain ⟨ho1, ho2, ho3, ho4⟩ := ho
  have HO1 : Hid (os.length = no) := ho1
  have HO4 : Hid (∀ x, oa = some x → ∀ i (h : i < os.length), OpAt w x i os[i]) := ho4
  unfold maxLen at ho2
  clear ho1 ho4
  go_enter Try.func5, Try.ntmps5
  go_wp2_with fail
  refine (head4_any _).mono ?_
  rintro e w1 ⟨rfl, hb1⟩
  have HB1 : Hid (Below w.heap.size w w1) := hb1
  clear hb1
  go_wp2_with fail
  refine (new_new 8 8 nSec8a w w.heap.size w1 HB1.out (Nat.le_refl _)).mono ?_
  rintro e w2 ⟨ga, fa0, rfl, hN2, -, -⟩
  have HN2 : Hid (NewAt w w.heap.size w2 ga fa0 _) := hN2
  clear hN2
  go_wp2_with fail
  refine (new_new 8 8 nSec8a w w.heap.size w2 HN2.out.bel (Nat.le_refl _)).mono ?_
  rintro e w3 ⟨gb, fb0, rfl, hN3, hnew3, hb3⟩
  have HT3 : Hid (Two w w.heap.size w3 ga fa0 _ gb fb0 _) := ⟨HN2.out.below hb3, hN3, fun k hk hk' => by have h1 := HN2.out.at_.hasLt k hk; have h2 := hnew3 k hk'; omega⟩
  clear hN3 hnew3 hb3 HN2
  go_wp2_with fail
  have hbe4 : Below w3.heap.size w3 (((w3.alloc (.cells #[dptr gb] 24)).alloc (.cells #[] 4)).alloc (.cells #[] 9)) := (((Below.refl _ _).alloc (Nat.le_refl _) _).alloc (by simp) _).alloc (by simp; omega) _
  have hB4 : Blk (((w3.alloc (.cells #[dptr gb] 24)).alloc (.cells #[] 4)).alloc (.cells #[] 9)) w3.heap.size #[dptr gb] 24 := ((Blk.new w3 _ _).alloc _).alloc _
  have hR4 : Row1 (((w3.alloc (.cells #[dptr gb] 24)).alloc (.cells #[] 4)).alloc (.cells #[] 9)) (Mine w.heap.size fa0 fb0) 4 (.slice (some ⟨w3.heap.size + 1, 0, none⟩) 0 0) [] := by
    have := (Row1.empty (M := Mine w.heap.size fa0 fb0) (w3.alloc (.cells #[dptr gb] 24)) 4 (HT3.out.mine (by simp))).below (w' := ((w3.alloc (.cells #[dptr gb] 24)).alloc (.cells #[] 4)).alloc (.cells #[] 9)) ((Below.refl _ _).alloc (Nat.le_refl _) _)
    simpa using this
  have HH4 : Hid (Has w _ ga gb w3.heap.size (.slice (some ⟨w3.heap.size + 1, 0, none⟩) 0 0) (.slice none 0 0) fa0 fb0 _ _ [] []) := ⟨HT3.out.below hbe4, hB4, HT3.out.mine (Nat.le_refl _), hR4, Row1.nil⟩
  refine (all_any w3.heap.size (HT3.out.below hbe4).b (hB4.cell 0) (by simp) (fun p hp => by rw [(List.mem_replicate.1 hp).2])).mono ?_
  rintro e w5 ⟨g5, cap5, rfl, hR5, hb5⟩
  have HH5 : Hid (Has w w5 ga gb w3.heap.size (.slice (some ⟨w3.heap.size + 1, 0, none⟩) 0 0) (.slice (some ⟨g5, 0, none⟩) 8 cap5) fa0 fb0 _ _ (List.replicate ([] : List (Nat × List UInt8)).length (.bool true)) (strs (List.replicate 8 (zeros, false)))) := HH4.out.newSafe hb5 hR5 rfl
  have HG5 : Hid (Good 0 (List.replicate 8 (zeros, false)) (List.replicate 8 (zeros, false)) [] 0 (List.replicate 8 (zeros, false)) (List.replicate 8 (zeros, false)) [] 0) :=
    ⟨by simp, by simp, rfl, fun p hp => by rw [(List.mem_replicate.1 hp).2], fun p hp => by rw [(List.mem_replicate.1 hp).2], fun p hp => by rw [(List.mem_replicate.1 hp).2], by simp, by simp, by simp, by omega, by omega⟩
  clear hbe4 hB4 hR4 HH4 hR5 hb5 HT3
  generalize w3.heap.size = vb at *
  go_wp2_with fail
  go_loopw [5, 6, 8] (fun vk vs vi wr => ∃ (k : Nat) (ak az : Option Addr) (nk ck ns cs : Nat) (fa fb : Foot) (nowA safeA : List Sec) (waitsA : List (Nat × List UInt8)) (stA : Nat) (nowB safeB : List Sec) (waitsB : List (Nat × List UInt8)) (stB : Nat), vi = .int .i64 (k : Int) ∧ vk = .slice ak nk ck ∧ vs = .slice az ns cs ∧ k ≤ 30 ∧ k ≤ no ∧ Has w wr ga gb vb (.slice ak nk ck) (.slice az ns cs) fa fb ⟨nowA, safeA, waitsA, 0, false, stA⟩ ⟨nowB, safeB, waitsB, 0, false, stB⟩ (List.replicate waitsA.length (.bool true)) (strs safeB) ∧ Good k nowA safeA waitsA stA nowB safeB waitsB stB) (fun _ _ vi _ => 30 - (intOf vi).toNat)
  case atStart => exact ⟨0, _, _, _, _, _, _, fa0, fb0, _, _, _, _, _, _, _, _, rfl, rfl, rfl, by omega, by omega, HH5.out, HG5.out⟩
  case round =>
    obtain ⟨k, ak, az, nk, ck, ns, cs, fa, fb, nowA, safeA, waitsA, stA, nowB, safeB, waitsB, stB, rfl, rfl, rfl, hk, hkn, hH, hG⟩ := hrel
    have HH : Hid (Has w wr ga gb vb (.slice ak nk ck) (.slice az ns cs) fa fb _ _ _ _) := hH
    have HG : Hid (Good k _ _ _ _ _ _ _ _) := hG
    clear hH hG HH5 HG5
    by_cases hlt : k < no ∧ k < 30
    · obtain ⟨hlt1, hlt2⟩ := hlt
      have hd1 : decide ((k : Int) < (no : Int)) = true := decide_eq_true (by omega)
      have hd2 : decide ((k : Int) < 30) = true := decide_eq_true (by omega)
      obtain ⟨x, rfl⟩ : ∃ x, oa = some x := by
        cases oa with
        | none => have := ho3 rfl; omega
        | some x => exact ⟨x, rfl⟩
      have hop0 := HO4.out x rfl k (by rw [HO1.out]; exact hlt1)
      generalize os[k]'(by rw [HO1.out]; exact hlt1) = o at hop0
      have hop := hop0.below HH.out.two.a.bel
      obtain ⟨kk, at_, bo, bn, bc, bl, ko, kn, kc, kl, tr⟩ := o
      have e0 : wr.cell? (x.add (k * 5)) = some (.int .i64 kk) := hop.c0
      have e1 : wr.cell? ⟨(x.add (k * 5)).block, (x.add (k * 5)).off + 1, none⟩ = some (.int .i64 at_) := cell_onA (by omega) hop.c1
      have e2 : wr.cell? ⟨(x.add (k * 5)).block, (x.add (k * 5)).off + 2, none⟩ = some (.slice bo bn bc) := cell_onA (by omega) hop.c2
      have e3 : wr.cell? ⟨(x.add (k * 5)).block, (x.add (k * 5)).off + 3, none⟩ = some (.slice ko kn kc) := cell_onA (by omega) hop.c3
      have e4 : wr.cell? ⟨(x.add (k * 5)).block, (x.add (k * 5)).off + 4, none⟩ = some (.int .i64 tr) := cell_onA (by omega) hop.c4
      have HSRC : Hid (Src w (.slice bo bn bc) bl) := hop0.src
      have hbl : bl.length = bn := hop.len
      have HBL : Hid (bl.length = bn) := hbl
      have hbc : bn ≤ 9223372036854775807 := by have h1 := hop.bn; have h2 := hop.bc; unfold maxLen at h2; simp only at h1 h2; omega
      have hat64 := bounds_i64 hop.w1
      simp only at hat64
      clear hop hop0 hbl
      have hbeL : Below wr.heap.size wr (wr.alloc (.cells #[.int .i64 kk, .int .i64 at_, .slice bo bn bc, .slice ko kn kc, .int .i64 tr] 30)) := (Below.refl _ _).alloc (Nat.le_refl _) _
      have HH1 : Hid (Has w _ ga gb vb (.slice ak nk ck) (.slice az ns cs) fa fb _ _ _ _) := HH.out.below hbeL
      have HL1 : Hid (Blk _ wr.heap.size _ 30) := Blk.new wr #[.int .i64 kk, .int .i64 at_, .slice bo bn bc, .slice ko kn kc, .int .i64 tr] 30
      have HM1 : Hid (Mine w.heap.size fa fb wr.heap.size) := HH.out.two.mine (Nat.le_refl _)
      have hlb : wr.heap.size < (wr.alloc (.cells #[.int .i64 kk, .int .i64 at_, .slice bo bn bc, .slice ko kn kc, .int .i64 tr] 30)).heap.size := by simp
      have HLB : Hid (_ < _) := hlb
      clear hbeL hlb
      by_cases hbig : bn ≤ 512
      · have hd3 : decide (512 < (bn : Int)) = false := decide_eq_false (by omega)
        by_cases hk2 : kk = 2
        · subst hk2
          go_wp2_with fail
          refine (sync_new HH1.out.two.a (by have := HG.out.sA; omega)).mono ?_
          rintro e w6 ⟨rfl, hN6, hT6⟩
          have HH6 : Hid (Has w w6 ga gb vb (.slice ak nk ck) (.slice az ns cs) fa fb _ _ _ _) := HH1.out.left hT6 hN6
          have v6 : w6.cell? ⟨vb, 0, none⟩ = some (dptr gb) := HH6.out.var.cell 0
          clear hN6 hT6 HH1 HL1 HM1 HLB e0 e1 e2 e3 e4
          go_wp2_with fail
          refine (sync_new HH6.out.two.b (by have := HG.out.sB; omega)).mono ?_
          rintro e w7 ⟨rfl, hN7, hT7⟩
          have HH7 : Hid (Has w w7 ga gb vb (.slice ak nk ck) (.slice az ns cs) fa fb _ _ _ _) := HH6.out.right hT7 hN7
          have v7 : w7.cell? ⟨vb, 0, none⟩ = some (dptr gb) := HH7.out.var.cell 0
          clear hN7 hT7 HH6 v6
          go_wp2_with fail
          refine (on_new none 0 0 [] (-1) HH7.out.two.b (Bools.nil _) (fun ad e _ => by cases e) (Nat.zero_le _) nowB rfl).mono ?_
          rintro e w8 ⟨rfl, hN8, hT8⟩
          have HH8 : Hid (Has w w8 ga gb vb (.slice ak nk ck) (.slice az ns cs) fa fb _ _ _ _) := HH7.out.right hT8 hN8
          have v8 : w8.cell? ⟨vb, 0, none⟩ = some (dptr gb) := HH8.out.var.cell 0
          clear hN8 hT8 HH7 v7
          go_wp2_with fail
          refine (all_any vb HH8.out.two.b v8 HG.out.lenB HG.out.okB).mono ?_
          rintro e w9 ⟨g9, cap9, rfl, hR9, hb9⟩
          have HH9 : Hid (Has w w9 ga gb vb (.slice none 0 0) (.slice (some ⟨g9, 0, none⟩) 8 cap9) fa fb _ _ (List.replicate ([] : List (Nat × List UInt8)).length (.bool true)) (strs nowB)) := HH8.out.newKeep.newSafe hb9 hR9 rfl
          clear hR9 hb9 HH8 v8
          go_wp2_with fail
          go_roundw
          case rel => exact ⟨k + 1, none, _, 0, 0, _, _, fa, fb, _, _, _, _, _, _, _, _, by go_num, rfl, rfl, by omega, by omega, HH9.out, HG.out.sync⟩
          case measure => simp [intOf]; omega
        · have hk2' : (kk == 2) = false := beq_eq_false_iff_ne.2 hk2
          by_cases hin : 0 ≤ at_ ∧ at_ < 8
          · obtain ⟨i, rfl⟩ := Int.eq_ofNat_of_zero_le hin.1
            go_wp2_with fail
            refine (write_new i bo bn bc bl HH1.out.two.a (by rw [HG.out.lenA]; omega) (HSRC.out.below HH1.out.two.a.bel) (by rw [HBL.out]; omega) (by have := HG.out.sA; omega) (by have := HG.out.wA; omega)).mono ?_
            rintro e w6 ⟨rfl, fa6, hN6, hT6⟩
            have HH6 : Hid (Has w w6 ga gb vb (.slice ak nk ck) (.slice az ns cs) fa6 fb _ _ _ _) := HH1.out.left hT6 hN6
            have HL6 : Hid (Blk w6 wr.heap.size _ 30) := HL1.out.chg hT6.chg HM1.out.2.1
            have HM6 : Hid (Mine w.heap.size fa6 fb wr.heap.size) := HM1.out.left hT6 HLB.out
            obtain ⟨hBo, hnk⟩ := HH6.out.kp.bools
            have HNK : Hid (nk = waitsA.length) := hnk
            clear hN6 hT6 HH1 HL1 HM1 HLB e0 e1 e2 e3 e4 hBo hnk
            go_wp2_with (first | (at_builtin; refine wpList_push1 w6 rfl _ _ 28 rfl (.bool false) 1 infoB rfl (by omega) Try.underlying28 (.bool true) HH6.out.kp rfl (fun k hk => HH6.out.two.mine hk) rfl ?_ nk (by rw [HNK.out, List.length_replicate]) (by have := HG.out.wA; rw [HNK.out]; omega) ?_))
            · rfl
            intro vk7 w7 hR7 hch7 hf7 hat7
            obtain ⟨ak7, ck7, rfl⟩ := hf7
            rw [replicate_snoc] at hR7
            have HH7 : Hid (Has w w7 ga gb vb (.slice ak7 (nk + 1) ck7) (.slice az ns cs) fa6 fb _ _ (List.replicate (waitsA.length + 1) (.bool true)) _) := HH6.out.push hch7 hR7
            have hL7 : Blk w7 wr.heap.size #[.int .i64 kk, .int .i64 (i : Int), .slice bo bn bc, .slice ko kn kc, .int .i64 tr] 30 := HL6.out.chg hch7 (fun e => by obtain ⟨c, hc⟩ := HH6.out.kp.blk e; exact hc.ne HL6.out (by decide) rfl)
            have HL7 : Hid (Blk w7 wr.heap.size #[.int .i64 kk, .int .i64 (i : Int), .slice bo bn bc, .slice ko kn kc, .int .i64 tr] 30) := hL7
            have v7 : w7.cell? ⟨vb, 0, none⟩ = some (dptr gb) := HH7.out.var.cell 0
            have l1 : w7.cell? ⟨wr.heap.size, 1, none⟩ = some (.int .i64 (i : Int)) := hL7.cell 1
            have l2 : w7.cell? ⟨wr.heap.size, 2, none⟩ = some (.slice bo bn bc) := hL7.cell 2
            clear hR7 hch7 hat7 HH6 HL6 hL7
            go_wp2_with fail
            refine (write_new i bo bn bc bl HH7.out.two.b (by rw [HG.out.lenB]; omega) (HSRC.out.below HH7.out.two.a.bel) (by rw [HBL.out]; omega) (by have := HG.out.sB; omega) (by have := HG.out.wB; omega)).mono ?_
            rintro e w8 ⟨rfl, fb8, hN8, hT8⟩
            have HH8 : Hid (Has w w8 ga gb vb (.slice ak7 (nk + 1) ck7) (.slice az ns cs) fa6 fb8 _ _ _ _) := HH7.out.right hT8 hN8
            have hL8 : Blk w8 wr.heap.size #[.int .i64 kk, .int .i64 (i : Int), .slice bo bn bc, .slice ko kn kc, .int .i64 tr] 30 := HL7.out.chg hT8.chg HM6.out.2.2
            have v8 : w8.cell? ⟨vb, 0, none⟩ = some (dptr gb) := HH8.out.var.cell 0
            have l0 : w8.cell? ⟨wr.heap.size, 0, none⟩ = some (.int .i64 kk) := hL8.cell 0
            have HG8 : Hid (Good (k + 1) _ _ _ _ _ _ _ _) := HG.out.write i (pad bl)
            have HWL : Hid ((waitsA ++ [(i, pad bl)]).length = waitsA.length + 1) := by show _ = _; simp
            clear hN8 hT8 HH7 HL7 v7 l1 l2 hL8
            by_cases hk1 : kk = 1
            · subst hk1
              go_wp2_with fail
              refine (on_new none 0 0 [] (-1) HH8.out.two.b (Bools.nil _) (fun ad e _ => by cases e) (Nat.zero_le _) safeB (stays_none _ (by omega) _ _ _)).mono ?_
              rintro e w9 ⟨rfl, hN9, hT9⟩
              have HH9 : Hid (Has w w9 ga gb vb (.slice ak7 (nk + 1) ck7) (.slice az ns cs) fa6 fb8 _ _ _ _) := HH8.out.right hT9 hN9
              clear hN9 hT9 HH8 v8 l0
              go_wp2_with fail
              go_roundw
              case rel => exact ⟨k + 1, _, _, _, _, _, _, fa6, fb8, _, _, _, _, _, _, _, _, by go_num, rfl, rfl, by omega, by omega, by rw [HWL.out]; exact HH9.out, HG8.out.drop⟩
              case measure => simp [intOf]; omega
            · have hk1' : (kk == 1) = false := beq_eq_false_iff_ne.2 hk1
              go_wp2_with fail
              go_roundw
              case rel => exact ⟨k + 1, _, _, _, _, _, _, fa6, fb8, _, _, _, _, _, _, _, _, by go_num, rfl, rfl, by omega, by omega, by rw [HWL.out]; exact HH8.out, HG8.out⟩
              case measure => simp [intOf]; omega
          · have hca := write_arg fa ⟨nowA, safeA, waitsA, 0, false, stA⟩ at_ bo bn bc _ HH1.out.two.a.at_ (.inl (by show ¬ (0 ≤ at_ ∧ at_ < (nowA.length : Int)); rw [HG.out.lenA]; exact hin)) (by unfold maxLen; omega)
            rw [HH1.out.two.a.ptr] at hca
            have hcb := write_arg fb ⟨nowB, safeB, waitsB, 0, false, stB⟩ at_ bo bn bc _ HH1.out.two.b.at_ (.inl (by show ¬ (0 ≤ at_ ∧ at_ < (nowB.length : Int)); rw [HG.out.lenB]; exact hin)) (by unfold maxLen; omega)
            rw [HH1.out.two.b.ptr] at hcb
            have HCA : Hid (Calls _ _ _ _ _) := hca
            have HCB : Hid (Calls _ _ _ _ _) := hcb
            clear hca hcb
            go_wp2_with fail
            refine Calls.mono HCA.out ?_
            rintro e w' ⟨rfl, hw⟩; rw [hw]; clear hw w'
            have v6 : (wr.alloc (.cells #[.int .i64 kk, .int .i64 at_, .slice bo bn bc, .slice ko kn kc, .int .i64 tr] 30)).cell? ⟨vb, 0, none⟩ = some (dptr gb) := HH1.out.var.cell 0
            go_wp2_with fail
            refine Calls.mono HCB.out ?_
            rintro e w' ⟨rfl, hw⟩; rw [hw]; clear hw w'
            go_wp2_with fail
            go_roundw
            case rel => exact ⟨k + 1, _, _, _, _, _, _, fa, fb, _, _, _, _, _, _, _, _, by go_num, rfl, rfl, by omega, by omega, HH1.out, HG.out.more⟩
            case measure => simp [intOf]; omega
      · have hd3 : decide (512 < (bn : Int)) = true := decide_eq_true (by omega)
        go_wp2_with fail
        go_roundw
        case rel => exact ⟨k + 1, _, _, _, _, _, _, fa, fb, _, _, _, _, _, _, _, _, by go_num, rfl, rfl, by omega, by omega, HH1.out, HG.out.more⟩
        case measure => simp [intOf]; omega
    · have hx : no ≤ k ∨ (k < no ∧ 30 ≤ k) := by omega
      clear hlt
      rcases hx with hx | ⟨hx, hx'⟩
      · have hd1 : decide ((k : Int) < (no : Int)) = false := decide_eq_false (by omega)
        generalize wr = wq at *
        go_wp2_with fail
        go_loopw [10, 11] (fun vw vi w2 => ∃ (j : Nat) (ao : Option Addr) (cap : Nat), vi = .int .i64 (j : Int) ∧ vw = .slice ao j cap ∧ j ≤ 8 ∧ Row1 w2 (fun k => wq.heap.size ≤ k) 9 (.slice ao j cap) ((strs nowA).take j) ∧ Below wq.heap.size wq w2) (fun _ vi _ => 8 - (intOf vi).toNat)
        case atStart => exact ⟨0, _, 0, rfl, rfl, by omega, Row1.empty wq _ (Nat.le_refl _), (Below.refl _ _).alloc (Nat.le_refl _) _⟩
        case round =>
          generalize wr = w2 at *
          obtain ⟨j, ao, cap, rfl, rfl, hj, hR, hE⟩ := hrel
          have HR : Hid (Row1 w2 _ _ _ _) := hR
          have HE : Hid (Below wq.heap.size wq w2) := hE
          clear hR hE
          by_cases hlt : j < 8
          · have hkn : j < nowA.length := by rw [HG.out.lenA]; exact hlt
            have hgk : nowA[j]? = some (nowA[j].1, false) := by rw [List.getElem?_eq_getElem hkn]; congr 1; exact Prod.ext rfl (HG.out.okA _ (List.getElem_mem hkn))
            have HRd : Hid (Calls _ _ _ _ _) := read_new j (HH.out.two.a.below HE.out) nowA[j].1 hgk
            have HS : Hid ((strs nowA)[j]? = some (strOf nowA[j].1)) := strs_at (List.getElem?_eq_getElem hkn)
            have HPL : Hid (nowA[j].1.length = 512) := HH.out.two.a.at_.inv.nows _ (List.getElem_mem hkn)
            clear hgk
            generalize nowA[j].1 = bl at *
            go_wp2_with fail
            refine Calls.mono HRd.out ?_
            rintro e w5 ⟨rfl, hN5, hB5, -, hb5, hz5⟩
            have j1 := (Blk.src (w := w5) (k := 512) (c := 512) hB5 (by rw [HPL.out]; omega) (by omega) (by unfold maxLen; omega)).str
            rw [List.take_of_length_le (by rw [HPL.out]; omega)] at j1
            have HR5 : Hid (Row1 w5 _ _ _ _) := HR.out.below hb5
            have HE5 : Hid (Below wq.heap.size wq w5) := HE.out.trans (hb5.mono HE.out.size)
            have HXL : Hid (((strs nowA).take j).length = j) := by show _ = _; rw [List.length_take, strs_length, HG.out.lenA]; omega
            have HSB : Hid ((strs nowA)[j]? = some (.string ⟨bl.toArray⟩)) := HS.out
            clear hN5 hB5 hb5 hz5 HR HRd
            generalize (⟨bl.toArray⟩ : ByteArray) = sb at *
            go_wp2_with (first | (at_builtin; refine wpList_push1 w5 rfl _ _ 44 rfl (.string ByteArray.empty) 16 infoStr rfl (by omega) Try.underlying44 (.string sb) HR5.out rfl (fun k hk => Nat.le_trans HE5.out.size hk) rfl ?_ j HXL.out (by omega) ?_))
            · rfl
            intro v6 w6 hR6 hch6 hf6 hat6
            obtain ⟨ao6, cap6, rfl⟩ := hf6
            have HR6 : Hid (Row1 w6 (fun k => wq.heap.size ≤ k) 9 (.slice ao6 (j + 1) cap6) ((strs nowA).take (j + 1))) := by
              rw [take_next HSB.out] at hR6
              exact hR6
            have HE6 : Hid (Below wq.heap.size wq w6) := HE5.out.trans (hch6.below HE5.out.size (fun i hi => HR5.out.mine i hi))
            clear hR6 hch6 hat6 j1 HR5 HE5
            go_wp2_with fail
            go_roundw
            case rel => exact ⟨j + 1, ao6, cap6, by go_num, rfl, by omega, HR6.out, HE6.out⟩
            case measure => simp [intOf]; omega
          · have hj8 : j = 8 := by omega
            subst hj8
            have hR := HR.out
            rw [List.take_of_length_le (by rw [strs_length, HG.out.lenA]; omega)] at hR
            obtain ⟨gw, e, -⟩ := Row1.cell (i := 0) hR (strs_at (List.getElem?_eq_getElem (by rw [HG.out.lenA]; omega)))
            subst e
            have HRW : Hid (Row1 w2 (fun k => wq.heap.size ≤ k) 9 (.slice (some ⟨gw, 0, none⟩) 8 cap) (strs nowA)) := hR
            have HH2 : Hid (Has w w2 ga gb vb (.slice ak nk ck) (.slice az ns cs) fa fb _ _ _ _) := HH.out.below HE.out
            have HMW : Hid (∀ k, wq.heap.size ≤ k → Mine w.heap.size fa fb k) := fun k hk => HH.out.two.mine hk
            clear hR HR
            go_wp2_with fail
            refine (off_new HH2.out.two.a).mono ?_
            rintro e w7 ⟨rfl, hN7, hT7⟩
            have HH7 : Hid (Has w w7 ga gb vb (.slice ak nk ck) (.slice az ns cs) fa fb _ _ _ _) := HH2.out.left hT7 hN7
            have HRW7 : Hid (Row1 w7 _ _ _ _) := HRW.out.chg hT7.chg (fun i hi => (HMW.out i hi).2.1)
            clear hN7 hT7 HH2 HRW
            obtain ⟨hBo, hnk⟩ := HH7.out.kp.bools
            have HBo : Hid (Bools w7 ak nk (List.replicate waitsA.length true)) := hBo
            have HNK : Hid (nk = waitsA.length) := hnk
            clear hBo hnk
            go_wp2_with fail
            refine (on_new ak nk ck (List.replicate waitsA.length true) 0 HH7.out.two.a HBo.out (fun ad e _ => (HH7.out.kp.mine ad.block (by rw [e]; rfl)).2.1) (by have := HG.out.wA; rw [HNK.out]; unfold maxLen; omega) nowA HG.out.allA).mono ?_
            rintro e w8 ⟨rfl, hN8, hT8⟩
            have HH8 : Hid (Has w w8 ga gb vb (.slice ak nk ck) (.slice az ns cs) fa fb _ _ _ _) := HH7.out.left hT8 hN8
            have HRW8 : Hid (Row1 w8 _ _ _ _) := HRW7.out.chg hT8.chg (fun i hi => (HMW.out i hi).2.1)
            have v8 : w8.cell? ⟨vb, 0, none⟩ = some (dptr gb) := HH8.out.var.cell 0
            clear hN8 hT8 HH7 HRW7 HBo HNK
            go_wp2_with fail
            refine (on_new none 0 0 [] (-1) HH8.out.two.b (Bools.nil _) (fun ad e _ => by cases e) (Nat.zero_le _) safeB (stays_none _ (by omega) _ _ _)).mono ?_
            rintro e w9 ⟨rfl, hN9, hT9⟩
            have HH9 : Hid (Has w w9 ga gb vb (.slice ak nk ck) (.slice az ns cs) fa fb _ _ _ _) := HH8.out.right hT9 hN9
            have HRW9 : Hid (Row1 w9 _ _ _ _) := HRW8.out.chg hT9.chg (fun i hi => (HMW.out i hi).2.2)
            have v9 : w9.cell? ⟨vb, 0, none⟩ = some (dptr gb) := HH9.out.var.cell 0
            clear hN9 hT9 HH8 HRW8 v8
            go_wp2_with fail
            refine (all_any vb HH9.out.two.b v9 HG.out.lenS HG.out.okS).mono ?_
            rintro e w10 ⟨gn, cn, rfl, hR10, hb10⟩
            have HH10 : Hid (Has w w10 ga gb vb (.slice ak nk ck) (.slice az ns cs) fa fb _ _ _ _) := HH9.out.below hb10
            have HRW10 : Hid (Row1 w10 _ _ _ _) := HRW9.out.below hb10
            have HRN : Hid (Row1 w10 _ _ _ _) := hR10
            clear hR10 hb10 HH9 HRW9 v9
            obtain ⟨az', cs', e', -, -, -, -⟩ := HH10.out.sf.form
            simp only [Value.slice.injEq] at e'
            obtain ⟨-, hns, -⟩ := e'
            rw [strs_length, HG.out.lenS] at hns
            subst hns
            obtain ⟨gz, ez, -⟩ := Row1.cell (i := 0) HH10.out.sf (strs_at (List.getElem?_eq_getElem (by rw [HG.out.lenS]; omega)))
            subst ez
            go_wp2_with fail
            go_loopw [15] (fun vi w3 => ∃ j : Nat, vi = .int .i64 (j : Int) ∧ j ≤ 8 ∧ Below w10.heap.size w10 w3) (fun vi _ => 8 - (intOf vi).toNat)
            case atStart => exact ⟨0, rfl, by omega, Below.refl _ _⟩
            case round =>
              generalize wr = w3 at *
              obtain ⟨j, rfl, hj, hE3⟩ := hrel
              have HE3 : Hid (Below w10.heap.size w10 w3) := hE3
              clear hE3
              by_cases hlt : j < 8
              · have hkn : j < nowA.length := by rw [HG.out.lenA]; exact hlt
                have hks : j < safeB.length := by rw [HG.out.lenS]; exact hlt
                have hgk : nowA[j]? = some (nowA[j].1, false) := by rw [List.getElem?_eq_getElem hkn]; congr 1; exact Prod.ext rfl (HG.out.okA _ (List.getElem_mem hkn))
                have HRd : Hid (Calls _ _ _ _ _) := read_new j (HH10.out.two.a.below HE3.out) nowA[j].1 hgk
                have HPL : Hid (nowA[j].1.length = 512) := HH10.out.two.a.at_.inv.nows _ (List.getElem_mem hkn)
                obtain ⟨gw', ew, hcw⟩ := Row1.cell (i := j) HRW10.out (strs_at (List.getElem?_eq_getElem hkn))
                obtain ⟨gn', en, hcn⟩ := Row1.cell (i := j) HRN.out (strs_at (List.getElem?_eq_getElem hks))
                obtain ⟨gz', ez, hcz⟩ := Row1.cell (i := j) HH10.out.sf (strs_at (List.getElem?_eq_getElem hks))
                cases ew
                cases en
                cases ez
                have HCW : Hid (w10.cell? ⟨gw, j, none⟩ = some (.string ⟨nowA[j].1.toArray⟩)) := hcw
                have HCN : Hid (w10.cell? ⟨gn, j, none⟩ = some (.string ⟨safeB[j].1.toArray⟩)) := hcn
                have HCZ : Hid (w10.cell? ⟨gz, j, none⟩ = some (.string ⟨safeB[j].1.toArray⟩)) := hcz
                clear hgk hcw hcn hcz
                generalize nowA[j].1 = bl at *
                generalize (⟨safeB[j].1.toArray⟩ : ByteArray) = ss at *
                go_wp2_with fail
                refine Calls.mono HRd.out ?_
                rintro e w5 ⟨rfl, hN5, hB5, -, hb5, hz5⟩
                have HE5 : Hid (Below w10.heap.size w10 w5) := HE3.out.trans (hb5.mono HE3.out.size)
                have i1 := (Blk.src (w := w5.drew) (k := 512) (c := 512) hB5.drew (by rw [HPL.out]; omega) (by omega) (by unfold maxLen; omega)).strE
                rw [List.take_of_length_le (by rw [HPL.out]; omega)] at i1
                have y1 := cellX (W0 := w5.drew) ((Below.cell HE5.out.drew (cell_lt HCW.out)).trans HCW.out)
                have y2 := cellX (W0 := w5.drew) ((Below.cell HE5.out.drew (cell_lt HCN.out)).trans HCN.out)
                have y3 := cellX (W0 := w5.drew) ((Below.cell HE5.out.drew (cell_lt HCZ.out)).trans HCZ.out)
                clear hN5 hB5 hb5 hz5 HRd HCW HCN HCZ
                generalize (⟨bl.toArray⟩ : ByteArray) = sb at *
                go_wp2_with fail
                refine wp_region_ext (by kernel_rfl) ?_
                haveI n1 := cls_ext w5.drew
                refine wpAnyH_seg (by kernel_rfl) (fun _ _ _ h => h) [0, 1, 2, 3, 4, 5, 6, 7, 8, 9, 10, 11, 12, 13, 14, 15, 16, 17, 18, 19, 20, 21] 0 _ _ _ (Ext.refl _) (by kernel_rfl) ?_
                simp only [opsAt, List.getElem?_toArray, List.getElem?_cons_zero, List.getElem?_cons_succ, List.cons_append, List.nil_append]
                repeat (go_big_quiet_step (fail))
                refine wpQuiet_nil ?_
                refine wpAnyH_done (by kernel_rfl) (NoPanic.normal ?_) 0
                clear n1 i1 y1 y2 y3
                have HE6 : Hid (Below w10.heap.size w10 w5.drew) := HE5.out.drew
                go_wp2_with fail
                go_roundw
                case rel => exact ⟨j + 1, by go_num, by omega, HE6.out⟩
                case measure => simp [intOf]; omega
              · have HA3 : Hid (NewAt w w.heap.size w3 ga fa _) := HH10.out.two.a.below HE3.out
                go_wp2_with fail
                refine (waits_new HA3.out 0 rfl).mono ?_
                rintro e w' ⟨rfl, hw⟩; rw [hw]; clear hw w'
                go_wp2
                go_ret
                exact ⟨rfl, HA3.out.bel⟩
      · have hd1 : decide ((k : Int) < (no : Int)) = true := decide_eq_true (by omega)
        have hd2 : decide ((k : Int) < 30) = false := decide_eq_false (by omega)
        generalize wr = wq at *
        go_wp2_with fail
        go_loopw [10, 11] (fun vw vi w2 => ∃ (j : Nat) (ao : Option Addr) (cap : Nat), vi = .int .i64 (j : Int) ∧ vw = .slice ao j cap ∧ j ≤ 8 ∧ Row1 w2 (fun k => wq.heap.size ≤ k) 9 (.slice ao j cap) ((strs nowA).take j) ∧ Below wq.heap.size wq w2) (fun _ vi _ => 8 - (intOf vi).toNat)
        case atStart => exact ⟨0, _, 0, rfl, rfl, by omega, Row1.empty wq _ (Nat.le_refl _), (Below.refl _ _).alloc (Nat.le_refl _) _⟩
        case round =>
          generalize wr = w2 at *
          obtain ⟨j, ao, cap, rfl, rfl, hj, hR, hE⟩ := hrel
          have HR : Hid (Row1 w2 _ _ _ _) := hR
          have HE : Hid (Below wq.heap.size wq w2) := hE
          clear hR hE
          by_cases hlt : j < 8
          · have hkn : j < nowA.length := by rw [HG.out.lenA]; exact hlt
            have hgk : nowA[j]? = some (nowA[j].1, false) := by rw [List.getElem?_eq_getElem hkn]; congr 1; exact Prod.ext rfl (HG.out.okA _ (List.getElem_mem hkn))
            have HRd : Hid (Calls _ _ _ _ _) := read_new j (HH.out.two.a.below HE.out) nowA[j].1 hgk
            have HS : Hid ((strs nowA)[j]? = some (strOf nowA[j].1)) := strs_at (List.getElem?_eq_getElem hkn)
            have HPL : Hid (nowA[j].1.length = 512) := HH.out.two.a.at_.inv.nows _ (List.getElem_mem hkn)
            clear hgk
            generalize nowA[j].1 = bl at *
            go_wp2_with fail
            refine Calls.mono HRd.out ?_
            rintro e w5 ⟨rfl, hN5, hB5, -, hb5, hz5⟩
            have j1 := (Blk.src (w := w5) (k := 512) (c := 512) hB5 (by rw [HPL.out]; omega) (by omega) (by unfold maxLen; omega)).str
            rw [List.take_of_length_le (by rw [HPL.out]; omega)] at j1
            have HR5 : Hid (Row1 w5 _ _ _ _) := HR.out.below hb5
            have HE5 : Hid (Below wq.heap.size wq w5) := HE.out.trans (hb5.mono HE.out.size)
            have HXL : Hid (((strs nowA).take j).length = j) := by show _ = _; rw [List.length_take, strs_length, HG.out.lenA]; omega
            have HSB : Hid ((strs nowA)[j]? = some (.string ⟨bl.toArray⟩)) := HS.out
            clear hN5 hB5 hb5 hz5 HR HRd
            generalize (⟨bl.toArray⟩ : ByteArray) = sb at *
            go_wp2_with (first | (at_builtin; refine wpList_push1 w5 rfl _ _ 44 rfl (.string ByteArray.empty) 16 infoStr rfl (by omega) Try.underlying44 (.string sb) HR5.out rfl (fun k hk => Nat.le_trans HE5.out.size hk) rfl ?_ j HXL.out (by omega) ?_))
            · rfl
            intro v6 w6 hR6 hch6 hf6 hat6
            obtain ⟨ao6, cap6, rfl⟩ := hf6
            have HR6 : Hid (Row1 w6 (fun k => wq.heap.size ≤ k) 9 (.slice ao6 (j + 1) cap6) ((strs nowA).take (j + 1))) := by
              rw [take_next HSB.out] at hR6
              exact hR6
            have HE6 : Hid (Below wq.heap.size wq w6) := HE5.out.trans (hch6.below HE5.out.size (fun i hi => HR5.out.mine i hi))
            clear hR6 hch6 hat6 j1 HR5 HE5
            go_wp2_with fail
            go_roundw
            case rel => exact ⟨j + 1, ao6, cap6, by go_num, rfl, by omega, HR6.out, HE6.out⟩
            case measure => simp [intOf]; omega
          · have hj8 : j = 8 := by omega
            subst hj8
            have hR := HR.out
            rw [List.take_of_length_le (by rw [strs_length, HG.out.lenA]; omega)] at hR
            obtain ⟨gw, e, -⟩ := Row1.cell (i := 0) hR (strs_at (List.getElem?_eq_getElem (by rw [HG.out.lenA]; omega)))
            subst e
            have HRW : Hid (Row1 w2 (fun k => wq.heap.size ≤ k) 9 (.slice (some ⟨gw, 0, none⟩) 8 cap) (strs nowA)) := hR
            have HH2 : Hid (Has w w2 ga gb vb (.slice ak nk ck) (.slice az ns cs) fa fb _ _ _ _) := HH.out.below HE.out
            have HMW : Hid (∀ k, wq.heap.size ≤ k → Mine w.heap.size fa fb k) := fun k hk => HH.out.two.mine hk
            clear hR HR
            go_wp2_with fail
            refine (off_new HH2.out.two.a).mono ?_
            rintro e w7 ⟨rfl, hN7, hT7⟩
            have HH7 : Hid (Has w w7 ga gb vb (.slice ak nk ck) (.slice az ns cs) fa fb _ _ _ _) := HH2.out.left hT7 hN7
            have HRW7 : Hid (Row1 w7 _ _ _ _) := HRW.out.chg hT7.chg (fun i hi => (HMW.out i hi).2.1)
            clear hN7 hT7 HH2 HRW
            obtain ⟨hBo, hnk⟩ := HH7.out.kp.bools
            have HBo : Hid (Bools w7 ak nk (List.replicate waitsA.length true)) := hBo
            have HNK : Hid (nk = waitsA.length) := hnk
            clear hBo hnk
            go_wp2_with fail
            refine (on_new ak nk ck (List.replicate waitsA.length true) 0 HH7.out.two.a HBo.out (fun ad e _ => (HH7.out.kp.mine ad.block (by rw [e]; rfl)).2.1) (by have := HG.out.wA; rw [HNK.out]; unfold maxLen; omega) nowA HG.out.allA).mono ?_
            rintro e w8 ⟨rfl, hN8, hT8⟩
            have HH8 : Hid (Has w w8 ga gb vb (.slice ak nk ck) (.slice az ns cs) fa fb _ _ _ _) := HH7.out.left hT8 hN8
            have HRW8 : Hid (Row1 w8 _ _ _ _) := HRW7.out.chg hT8.chg (fun i hi => (HMW.out i hi).2.1)
            have v8 : w8.cell? ⟨vb, 0, none⟩ = some (dptr gb) := HH8.out.var.cell 0
            clear hN8 hT8 HH7 HRW7 HBo HNK
            go_wp2_with fail
            refine (on_new none 0 0 [] (-1) HH8.out.two.b (Bools.nil _) (fun ad e _ => by cases e) (Nat.zero_le _) safeB (stays_none _ (by omega) _ _ _)).mono ?_
            rintro e w9 ⟨rfl, hN9, hT9⟩
            have HH9 : Hid (Has w w9 ga gb vb (.slice ak nk ck) (.slice az ns cs) fa fb _ _ _ _) := HH8.out.right hT9 hN9
            have HRW9 : Hid (Row1 w9 _ _ _ _) := HRW8.out.chg hT9.chg (fun i hi => (HMW.out i hi).2.2)
            have v9 : w9.cell? ⟨vb, 0, none⟩ = some (dptr gb) := HH9.out.var.cell 0
            clear hN9 hT9 HH8 HRW8 v8
            go_wp2_with fail
            refine (all_any vb HH9.out.two.b v9 HG.out.lenS HG.out.okS).mono ?_
            rintro e w10 ⟨gn, cn, rfl, hR10, hb10⟩
            have HH10 : Hid (Has w w10 ga gb vb (.slice ak nk ck) (.slice az ns cs) fa fb _ _ _ _) := HH9.out.below hb10
            have HRW10 : Hid (Row1 w10 _ _ _ _) := HRW9.out.below hb10
            have HRN : Hid (Row1 w10 _ _ _ _) := hR10
            clear hR10 hb10 HH9 HRW9 v9
            obtain ⟨az', cs', e', -, -, -, -⟩ := HH10.out.sf.form
            simp only [Value.slice.injEq] at e'
            obtain ⟨-, hns, -⟩ := e'
            rw [strs_length, HG.out.lenS] at hns
            subst hns
            obtain ⟨gz, ez, -⟩ := Row1.cell (i := 0) HH10.out.sf (strs_at (List.getElem?_eq_getElem (by rw [HG.out.lenS]; omega)))
            subst ez
            go_wp2_with fail
            go_loopw [15] (fun vi w3 => ∃ j : Nat, vi = .int .i64 (j : Int) ∧ j ≤ 8 ∧ Below w10.heap.size w10 w3) (fun vi _ => 8 - (intOf vi).toNat)
            case atStart => exact ⟨0, rfl, by omega, Below.refl _ _⟩
            case round =>
              generalize wr = w3 at *
              obtain ⟨j, rfl, hj, hE3⟩ := hrel
              have HE3 : Hid (Below w10.heap.size w10 w3) := hE3
              clear hE3
              by_cases hlt : j < 8
              · have hkn : j < nowA.length := by rw [HG.out.lenA]; exact hlt
                have hks : j < safeB.length := by rw [HG.out.lenS]; exact hlt
                have hgk : nowA[j]? = some (nowA[j].1, false) := by rw [List.getElem?_eq_getElem hkn]; congr 1; exact Prod.ext rfl (HG.out.okA _ (List.getElem_mem hkn))
                have HRd : Hid (Calls _ _ _ _ _) := read_new j (HH10.out.two.a.below HE3.out) nowA[j].1 hgk
                have HPL : Hid (nowA[j].1.length = 512) := HH10.out.two.a.at_.inv.nows _ (List.getElem_mem hkn)
                obtain ⟨gw', ew, hcw⟩ := Row1.cell (i := j) HRW10.out (strs_at (List.getElem?_eq_getElem hkn))
                obtain ⟨gn', en, hcn⟩ := Row1.cell (i := j) HRN.out (strs_at (List.getElem?_eq_getElem hks))
                obtain ⟨gz', ez, hcz⟩ := Row1.cell (i := j) HH10.out.sf (strs_at (List.getElem?_eq_getElem hks))
                cases ew
                cases en
                cases ez
                have HCW : Hid (w10.cell? ⟨gw, j, none⟩ = some (.string ⟨nowA[j].1.toArray⟩)) := hcw
                have HCN : Hid (w10.cell? ⟨gn, j, none⟩ = some (.string ⟨safeB[j].1.toArray⟩)) := hcn
                have HCZ : Hid (w10.cell? ⟨gz, j, none⟩ = some (.string ⟨safeB[j].1.toArray⟩)) := hcz
                clear hgk hcw hcn hcz
                generalize nowA[j].1 = bl at *
                generalize (⟨safeB[j].1.toArray⟩ : ByteArray) = ss at *
                go_wp2_with fail
                refine Calls.mono HRd.out ?_
                rintro e w5 ⟨rfl, hN5, hB5, -, hb5, hz5⟩
                have HE5 : Hid (Below w10.heap.size w10 w5) := HE3.out.trans (hb5.mono HE3.out.size)
                have i1 := (Blk.src (w := w5.drew) (k := 512) (c := 512) hB5.drew (by rw [HPL.out]; omega) (by omega) (by unfold maxLen; omega)).strE
                rw [List.take_of_length_le (by rw [HPL.out]; omega)] at i1
                have y1 := cellX (W0 := w5.drew) ((Below.cell HE5.out.drew (cell_lt HCW.out)).trans HCW.out)
                have y2 := cellX (W0 := w5.drew) ((Below.cell HE5.out.drew (cell_lt HCN.out)).trans HCN.out)
                have y3 := cellX (W0 := w5.drew) ((Below.cell HE5.out.drew (cell_lt HCZ.out)).trans HCZ.out)
                clear hN5 hB5 hb5 hz5 HRd HCW HCN HCZ
                generalize (⟨bl.toArray⟩ : ByteArray) = sb at *
                go_wp2_with fail
                refine wp_region_ext (by kernel_rfl) ?_
                haveI n1 := cls_ext w5.drew
                refine wpAnyH_seg (by kernel_rfl) (fun _ _ _ h => h) [0, 1, 2, 3, 4, 5, 6, 7, 8, 9, 10, 11, 12, 13, 14, 15, 16, 17, 18, 19, 20, 21] 0 _ _ _ (Ext.refl _) (by kernel_rfl) ?_
                simp only [opsAt, List.getElem?_toArray, List.getElem?_cons_zero, List.getElem?_cons_succ, List.cons_append, List.nil_append]
                repeat (go_big_quiet_step (fail))
                refine wpQuiet_nil ?_
                refine wpAnyH_done (by kernel_rfl) (NoPanic.normal ?_) 0
                clear n1 i1 y1 y2 y3
                have HE6 : Hid (Below w10.heap.size w10 w5.drew) := HE5.out.drew
                go_wp2_with fail
                go_roundw
                case rel => exact ⟨j + 1, by go_num, by omega, HE6.out⟩
                case measure => simp [intOf]; omega
              · have HA3 : Hid (NewAt w w.heap.size w3 ga fa _) := HH10.out.two.a.below HE3.out
                go_wp2_with fail
                refine (waits_new HA3.out 0 rfl).mono ?_
                rintro e w' ⟨rfl, hw⟩; rw [hw]; clear hw w'
                go_wp2
                go_ret
                exact ⟨rfl, HA3.out.bel⟩
end Go.Proofs.Ytpojpmkflgmgkaa

/- NodeLeaves: the walk of the law's Go text. -/
import Derived.Test.YtmjekecalghhdaaPIn
import Derived.Deep.QuietTactic
import Derived.BigQuiet
set_option linter.unusedSimpArgs false
set_option linter.unusedVariables false
namespace Go.Proofs.Ytmjekecalghhdaa
open Go.ChangeShapes Go.WideShapes Go.ChangeAt Go.RowKit

set_option maxRecDepth 100000 in
set_option maxHeartbeats 4000000 in
theorem leaves_true (pa : Option Addr) (n c : Nat) (l : List ByteArray) (k v : ByteArray) (w : World) (hps : IsStrs w pa n c l) (hsz : ∀ k ∈ l, k.size ≤ 140737488351232) (hh : hasB k (ksOf l) = true) :
    Calls Try.prog 9 #[.slice pa n c, .string k, .string v] w fun e w' => e = .returned (.bool true) ∧ Below w.heap.size w w' := by
  have HR : Hid (Rd w (.slice pa n c) (sv l)) := isStrs_rd hps
  have HLN : Hid (l.length = n) := hps.1
  have hnm : n ≤ 9223372036854775807 := Nat.le_trans hps.2.1 hps.2.2.1
  have HZ : Hid (∀ k ∈ l, k.size ≤ 140737488351232) := hsz
  clear hps hsz
  go_enter Try.func9, Try.ntmps9
  go_wp2_with fail
  refine (head7_any _).mono ?_
  rintro e w1 ⟨rfl, y⟩
  have Y1 : Hid (Below w.heap.size w w1) := y
  clear y
  by_cases h20 : 20 < n
  · go_wp2_with fail
    go_ret
    exact ⟨ret_bool rfl, Y1.out⟩
  · go_wp2_with fail
    refine (leaf_any _ l _ (HR.out.below Y1.out) (by have := HLN.out; omega) HZ.out).mono ?_
    rintro e w2 ⟨kv, vv, dv, rfl, ho, y⟩
    have hpp := ho.at
    clear ho
    obtain ⟨kn1, ka1, kc1, e1⟩ := hpp.keys.any
    obtain ⟨vn1, va1, vc1, e2⟩ := hpp.vals.any
    obtain ⟨dn1, da1, dc1, e3⟩ := hpp.kids.any
    subst e1 e2 e3
    have HKN : Hid ((ksOf l).length = kn1) := by show _ = _; exact (PIn.len hpp).1.symm
    have hvn : vn1 = kn1 := by rw [(PIn.len hpp).2.1, ← HKN.out]; simp [leafM]
    subst hvn
    have hk20 : vn1 ≤ 20 := by have h1 := ksOf_length l; have h2 := HLN.out; have h3 := HKN.out; omega
    have HRI : Hid (RisB (ksOf l)) := ksOf_rising l
    have HZK : Hid (∀ o ∈ ksOf l, o.size ≤ 140737488351232) := fun o ho => HZ.out o (ksOf_mem l o ho)
    have Y2 : Hid (Below w.heap.size w w2) := ext_trans Y1.out y
    clear y Y1 HZ HR
    generalize ksOf l = ks at *
    have Pw3 : Hid (PIn (w2.alloc (.cells #[.int .i64 (leafM ks).kind, .slice ka1 vn1 kc1, .slice va1 vn1 vc1, .slice da1 dn1 dc1, .int .i64 (leafM ks).root, .int .i64 (leafM ks).next, .int .i64 (leafM ks).size, .int .i64 (leafM ks).idle] 25)) w2.heap.size (leafM ks) (.slice ka1 vn1 kc1) (.slice va1 vn1 vc1) (.slice da1 dn1 dc1)) := PIn.new hpp
    have Yw3 : Hid (Below w.heap.size w (w2.alloc (.cells #[.int .i64 (leafM ks).kind, .slice ka1 vn1 kc1, .slice va1 vn1 vc1, .slice da1 dn1 dc1, .int .i64 (leafM ks).root, .int .i64 (leafM ks).next, .int .i64 (leafM ks).size, .int .i64 (leafM ks).idle] 25))) := Y2.out.alloc Y2.out.size _
    clear hpp Y2
    try unfold pgv
    go_upto_region 6 with fail
    generalize (w2.alloc (.cells #[.int .i64 (leafM ks).kind, .slice ka1 vn1 kc1, .slice va1 vn1 vc1, .slice da1 dn1 dc1, .int .i64 (leafM ks).root, .int .i64 (leafM ks).next, .int .i64 (leafM ks).size, .int .i64 (leafM ks).idle] 25)) = w3 at *
    obtain ⟨b7, hb⟩ : ∃ b, w2.heap.size = b := ⟨_, rfl⟩
    rw [hb] at Pw3 ⊢
    clear hb
    have HCL : Hid (Calls Try.prog 23 #[pgv (leafM ks) (.slice ka1 vn1 kc1) (.slice va1 vn1 vc1) (.slice da1 dn1 dc1)] w3 _) := pclone_any (leafM ks) _ _ _ w3 Pw3.out.P ⟨by show ks.length < _; have := HKN.out; omega, by simp [leafM]; have := HKN.out; omega, by simp [leafM]⟩
    unfold pgv at HCL
    obtain ⟨z0, z1, z2, z3, z4, z5, z6, z7⟩ := Pw3.out.B.cells
    go_wp2_with fail
    refine HCL.out.mono ?_
    rintro e w4 ⟨k2, v2, d2, rfl, ho, y⟩
    clear z0 z1 z2 z3 z4 z5 z6 z7
    have hpp := ho.at
    clear ho HCL
    obtain ⟨kn2, ka2, kc2, e1⟩ := hpp.keys.any
    obtain ⟨vn2, va2, vc2, e2⟩ := hpp.vals.any
    obtain ⟨dn2, da2, dc2, e3⟩ := hpp.kids.any
    subst e1 e2 e3
    have P4 : Hid (PIn w4 b7 (leafM ks) (.slice ka1 vn1 kc1) (.slice va1 vn1 vc1) (.slice da1 dn1 dc1)) := (Pw3.out).below y
    have Y4 : Hid (Below w.heap.size w w4) := ext_trans Yw3.out y
    clear Pw3 Yw3 y
    have Sw5 : Hid (PIn (w4.alloc (.cells #[.int .i64 (leafM ks).kind, .slice ka2 kn2 kc2, .slice va2 vn2 vc2, .slice da2 dn2 dc2, .int .i64 (leafM ks).root, .int .i64 (leafM ks).next, .int .i64 (leafM ks).size, .int .i64 (leafM ks).idle] 25)) w4.heap.size (leafM ks) (.slice ka2 kn2 kc2) (.slice va2 vn2 vc2) (.slice da2 dn2 dc2)) := PIn.new hpp
    have Pw5 : Hid (PIn (w4.alloc (.cells #[.int .i64 (leafM ks).kind, .slice ka2 kn2 kc2, .slice va2 vn2 vc2, .slice da2 dn2 dc2, .int .i64 (leafM ks).root, .int .i64 (leafM ks).next, .int .i64 (leafM ks).size, .int .i64 (leafM ks).idle] 25)) b7 (leafM ks) (.slice ka1 vn1 kc1) (.slice va1 vn1 vc1) (.slice da1 dn1 dc1)) := (P4.out).below (below_alloc _)
    have Yw5 : Hid (Below w.heap.size w (w4.alloc (.cells #[.int .i64 (leafM ks).kind, .slice ka2 kn2 kc2, .slice va2 vn2 vc2, .slice da2 dn2 dc2, .int .i64 (leafM ks).root, .int .i64 (leafM ks).next, .int .i64 (leafM ks).size, .int .i64 (leafM ks).idle] 25))) := Y4.out.alloc Y4.out.size _
    clear P4 Y4 hpp
    try unfold pgv
    go_upto_region 7 with fail
    generalize (w4.alloc (.cells #[.int .i64 (leafM ks).kind, .slice ka2 kn2 kc2, .slice va2 vn2 vc2, .slice da2 dn2 dc2, .int .i64 (leafM ks).root, .int .i64 (leafM ks).next, .int .i64 (leafM ks).size, .int .i64 (leafM ks).idle] 25)) = w5 at *
    obtain ⟨b8, hb⟩ : ∃ b, w4.heap.size = b := ⟨_, rfl⟩
    rw [hb] at Sw5 ⊢
    clear hb
    have hvk : vn1 = vn2 := by rw [(PIn.len Sw5.out.P).2.1, ← HKN.out]; simp [leafM]
    subst hvk
    go_upto_block 0 with fail
    go_cut [9] from 39 to 54 (fun s9 wx => s9 = .int .i64 (idxB k ks : Int) ∧ wx = w5)
    case first =>
      have HLE : Hid (idxB k ks ≤ ks.length) := idxB_le _ _
      have r3 := Pw5.out.P.keys.at.2.2.2
      have R3 : Hid (RdAt w5 ka1 kc1 (sv ks)) := r3
      clear r3
      have z1 := Pw5.out.B.cells.2.1
      go_wp2_with fail
      go_loopw [9] (fun va wr => ∃ a : Nat, va = .int .i64 (a : Int) ∧ a ≤ idxB k ks ∧ w5 = wr) (fun va _ => vn1 - (intOf va).toNat)
      case atStart => exact ⟨0, rfl, Nat.zero_le _, rfl⟩
      case round =>
        obtain ⟨a, rfl, ha, rfl⟩ := hrel
        by_cases hai : a < idxB k ks
        · have hak : a < ks.length := Nat.lt_of_lt_of_le hai HLE.out
          have hak' : a < vn1 := by rw [← HKN.out]; exact hak
          obtain ⟨kad, hkad⟩ := R3.out.ad (by rw [sv_length]; omega)
          subst hkad
          have y2 := R3.out.str rfl hak
          have hb : Op.bytesLess ks[a].toList k.toList = true := idxB_lt k ks a hak hai
          generalize ks[a] = x at *
          go_wp2
          go_roundw
          case rel => exact ⟨a + 1, by go_num, hai, trivial⟩
          case measure => simp [intOf]; omega
        · have hae : a = idxB k ks := by omega
          have HAE : Hid (a = idxB k ks) := hae
          by_cases hak' : a < vn1
          · have hak : a < ks.length := by rw [HKN.out]; exact hak'
            obtain ⟨kad, hkad⟩ := R3.out.ad (by rw [sv_length]; omega)
            subst hkad
            have y2 := R3.out.str rfl hak
            have hb : Op.bytesLess ks[a].toList k.toList = false := by have := idxB_at k ks (by rw [← hae]; exact hak); simp only [← hae] at this; exact this
            generalize ks[a] = x at *
            clear hae hai ha
            go_wp2
            go_meet
            case rel => exact ⟨by rw [HAE.out], rfl⟩
          · have hake : a = vn1 := by have := HLE.out; have := HKN.out; omega
            clear hae hai ha hake
            go_wp2
            go_meet
            case rel => exact ⟨by rw [HAE.out], rfl⟩
    case rest =>
      obtain ⟨rfl, rfl⟩ := hcut
      have P5 : Hid _ := Pw5.out
      have S5 : Hid _ := Sw5.out
      have Y5 : Hid _ := Yw5.out
      clear Pw5 Sw5 Yw5
      rename World => w5
      go_upto_region 10 with fail
      go_cut [10] from 55 to 68 (fun s10 wx => s10 = .bool true ∧ wx = w5)
      case first =>
        have HLE : Hid (idxB k ks ≤ ks.length) := idxB_le _ _
        have r3 := P5.out.P.keys.at.2.2.2
        have z1 := P5.out.B.cells.2.1
        have h0 := hasB_at k ks
        by_cases hak' : idxB k ks < vn1
        · have hak : idxB k ks < ks.length := by rw [HKN.out]; exact hak'
          obtain ⟨kad, hkad⟩ := r3.ad (by rw [sv_length]; show 0 < ks.length; omega)
          subst hkad
          have y2 : w5.cell? (kad.add (idxB k ks)) = some (.string ks[idxB k ks]) := r3.str (ss := ks) rfl hak
          rw [hh, List.getElem?_eq_getElem hak] at h0
          have hq : (ks[idxB k ks].toList == k.toList) = true := by rw [beq_str]; exact h0.symm
          clear h0 r3
          generalize ks[idxB k ks] = x at *
          generalize idxB k ks = ix at *
          go_wp2
          go_meet
          case rel => exact ⟨rfl, rfl⟩
        · rw [hh, List.getElem?_eq_none (by rw [HKN.out]; omega)] at h0
          cases h0
      case rest =>
        obtain ⟨rfl, rfl⟩ := hcut
        rename World => w5
        have hkz : k.size ≤ 140737488351232 := HZK.out _ (has_mem hh)
        have h118 : ByteArray.size ⟨#[118]⟩ = 1 := rfl
        have hvv : ((⟨#[118]⟩ ++ k : ByteArray).toList == (vk k).toList) = true := by unfold vk; simp
        have hvw : ((vk k).toList == (⟨#[118]⟩ ++ k : ByteArray).toList) = true := by unfold vk; simp
        have HH : Hid (hasB k ks = true) := hh
        have HAT : Hid (∀ W, PgAt W (leafM ks) (.slice ka1 vn1 kc1) (.slice va1 vn1 vc1) (.slice da1 dn1 dc1) → Calls Try.prog 26 #[pgv (leafM ks) (.slice ka1 vn1 kc1) (.slice va1 vn1 vc1) (.slice da1 dn1 dc1), .string k] W fun e w' => e = .returned (.tuple #[.int .i64 (idxB k ks : Int), .bool true]) ∧ Below W.heap.size W w') := fun W h => by have := atL_any ks k _ _ _ W h HRI.out (by have := HKN.out; omega); rw [HH.out] at this; exact this
        have HGT : Hid (∀ W, PgAt W (leafM ks) (.slice ka1 vn1 kc1) (.slice va1 vn1 vc1) (.slice da1 dn1 dc1) → Calls Try.prog 27 #[pgv (leafM ks) (.slice ka1 vn1 kc1) (.slice va1 vn1 vc1) (.slice da1 dn1 dc1), .string k] W fun e w' => e = .returned (.tuple #[.string (vk k), .bool true]) ∧ Below W.heap.size W w') := fun W h => getL_any (leafM ks) k _ _ _ _ _ W h HRI.out (by show ks.length ≤ _; have := HKN.out; omega) (by have h1 := HKN.out; have h2 := (PIn.len h).2.1; simp [leafM]; omega) (by rw [get_M HRI.out, HH.out]; rfl)
        unfold pgv at HAT HGT
        have HIX : Hid (idxB k ks ≤ vn1) := by show _ ≤ _; rw [← HKN.out]; exact idxB_le _ _
        have hix : idxB k ks ≤ vn1 := HIX.out
        obtain ⟨ix, hxx⟩ : ∃ ix, idxB k ks = ix := ⟨_, rfl⟩
        rw [hxx] at HAT hix ⊢
        clear hxx HIX hh
        obtain ⟨z0, z1, z2, z3, z4, z5, z6, z7⟩ := P5.out.B.cells
        go_wp2_with fail
        refine (HAT.out _ P5.out.P).mono ?_
        rintro e w6 ⟨rfl, y⟩
        clear z0 z1 z2 z3 z4 z5 z6 z7
        have P6 : Hid (PIn w6 b7 (leafM ks) (.slice ka1 vn1 kc1) (.slice va1 vn1 vc1) (.slice da1 dn1 dc1)) := (P5.out).below y
        have S6 : Hid (PIn w6 b8 (leafM ks) (.slice ka2 kn2 kc2) (.slice va2 vn1 vc2) (.slice da2 dn2 dc2)) := (S5.out).below y
        have Y6 : Hid (Below w.heap.size w w6) := ext_trans Y5.out y
        clear P5 S5 Y5 y
        clear HAT
        obtain ⟨z0, z1, z2, z3, z4, z5, z6, z7⟩ := P6.out.B.cells
        go_wp2_with fail
        refine (HGT.out _ P6.out.P).mono ?_
        rintro e w7 ⟨rfl, y⟩
        clear z0 z1 z2 z3 z4 z5 z6 z7
        have P7 : Hid (PIn w7 b7 (leafM ks) (.slice ka1 vn1 kc1) (.slice va1 vn1 vc1) (.slice da1 dn1 dc1)) := (P6.out).below y
        have S7 : Hid (PIn w7 b8 (leafM ks) (.slice ka2 kn2 kc2) (.slice va2 vn1 vc2) (.slice da2 dn2 dc2)) := (S6.out).below y
        have Y7 : Hid (Below w.heap.size w w7) := ext_trans Y6.out y
        clear P6 S6 Y6 y
        clear HGT
        have HPT : Hid (Calls Try.prog 28 #[pgv (leafM ks) (.slice ka1 vn1 kc1) (.slice va1 vn1 vc1) (.slice da1 dn1 dc1), .string k, .string v] w7 _) := nput_any (leafM ks) k v _ _ _ w7 P7.out.P (leafP_M ks) HRI.out ⟨by show ks.length ≤ _; have := HKN.out; omega, by have h1 := HKN.out; simp [leafM]; omega, by simp [leafM]⟩
        unfold pgv at HPT
        have QK : Hid ((putP (leafM ks) k v).keys = insB k ks) := put_keys k v
        have QV : Hid ((putP (leafM ks) k v).vals.length = (insB k ks).length) := put_len k v
        have QG : Hid (getP (putP (leafM ks) k v) k = (v, true)) := get_put_self k v HRI.out
        have QO : Hid (∀ o ∈ ks, o ≠ k → getP (putP (leafM ks) k v) o = (vk o, true)) := fun o ho hne => get_put_other k v HRI.out ho hne
        have QR : Hid (RisB (insB k ks)) := insB_rising k ks HRI.out
        obtain ⟨q, hqq⟩ : ∃ q, putP (leafM ks) k v = q := ⟨_, rfl⟩
        rw [hqq] at HPT QK QV QG QO
        clear hqq
        obtain ⟨z0, z1, z2, z3, z4, z5, z6, z7⟩ := P7.out.B.cells
        go_wp2_with fail
        refine HPT.out.mono ?_
        rintro e w8 ⟨k3, v3, d3, rfl, hpp, y⟩
        clear z0 z1 z2 z3 z4 z5 z6 z7
        obtain ⟨kn3, ka3, kc3, e1⟩ := hpp.keys.any
        obtain ⟨vn3, va3, vc3, e2⟩ := hpp.vals.any
        obtain ⟨dn3, da3, dc3, e3⟩ := hpp.kids.any
        subst e1 e2 e3
        have P8 : Hid (PIn w8 b7 (leafM ks) (.slice ka1 vn1 kc1) (.slice va1 vn1 vc1) (.slice da1 dn1 dc1)) := (P7.out).below y
        have S8 : Hid (PIn w8 b8 (leafM ks) (.slice ka2 kn2 kc2) (.slice va2 vn1 vc2) (.slice da2 dn2 dc2)) := (S7.out).below y
        have Y8 : Hid (Below w.heap.size w w8) := ext_trans Y7.out y
        clear P7 S7 Y7 y
        clear HPT
        have Qw9 : Hid (PIn (w8.alloc (.cells #[.int .i64 q.kind, .slice ka3 kn3 kc3, .slice va3 vn3 vc3, .slice da3 dn3 dc3, .int .i64 q.root, .int .i64 q.next, .int .i64 q.size, .int .i64 q.idle] 25)) w8.heap.size q (.slice ka3 kn3 kc3) (.slice va3 vn3 vc3) (.slice da3 dn3 dc3)) := PIn.new hpp
        have Pw9 : Hid (PIn (w8.alloc (.cells #[.int .i64 q.kind, .slice ka3 kn3 kc3, .slice va3 vn3 vc3, .slice da3 dn3 dc3, .int .i64 q.root, .int .i64 q.next, .int .i64 q.size, .int .i64 q.idle] 25)) b7 (leafM ks) (.slice ka1 vn1 kc1) (.slice va1 vn1 vc1) (.slice da1 dn1 dc1)) := (P8.out).below (below_alloc _)
        have Sw9 : Hid (PIn (w8.alloc (.cells #[.int .i64 q.kind, .slice ka3 kn3 kc3, .slice va3 vn3 vc3, .slice da3 dn3 dc3, .int .i64 q.root, .int .i64 q.next, .int .i64 q.size, .int .i64 q.idle] 25)) b8 (leafM ks) (.slice ka2 kn2 kc2) (.slice va2 vn1 vc2) (.slice da2 dn2 dc2)) := (S8.out).below (below_alloc _)
        have Yw9 : Hid (Below w.heap.size w (w8.alloc (.cells #[.int .i64 q.kind, .slice ka3 kn3 kc3, .slice va3 vn3 vc3, .slice da3 dn3 dc3, .int .i64 q.root, .int .i64 q.next, .int .i64 q.size, .int .i64 q.idle] 25))) := Y8.out.alloc Y8.out.size _
        clear P8 S8 Y8 hpp
        try unfold pgv
        go_upto_region 16 with fail
        generalize (w8.alloc (.cells #[.int .i64 q.kind, .slice ka3 kn3 kc3, .slice va3 vn3 vc3, .slice da3 dn3 dc3, .int .i64 q.root, .int .i64 q.next, .int .i64 q.size, .int .i64 q.idle] 25)) = w9 at *
        obtain ⟨b15, hb⟩ : ∃ b, w8.heap.size = b := ⟨_, rfl⟩
        rw [hb] at Qw9 ⊢
        clear hb
        have HDR : Hid (Calls Try.prog 29 #[pgv (leafM ks) (.slice ka1 vn1 kc1) (.slice va1 vn1 vc1) (.slice da1 dn1 dc1), .string k] w9 _) := ndrop_any (leafM ks) k _ _ _ w9 Pw9.out.P (leafP_M ks) HRI.out ⟨by show ks.length ≤ _; have := HKN.out; omega, by have h1 := HKN.out; simp [leafM]; omega, by simp [leafM]⟩
        unfold pgv at HDR
        rw [drop_leafM] at HDR
        have DR : Hid (RisB (delB k ks)) := delB_ris HRI.out k
        have DL : Hid ((delB k ks).length = if hasB k ks = true then ks.length - 1 else ks.length) := delB_length k
        have DG : Hid (getP (leafM (delB k ks)) k = (.empty, false)) := by have := get_drop_self k HRI.out; rw [drop_leafM] at this; exact this
        have DO : Hid (∀ o ∈ ks, o ≠ k → getP (leafM (delB k ks)) o = (vk o, true)) := fun o ho hne => by have := get_drop_other k HRI.out ho hne; rw [drop_leafM] at this; exact this
        generalize delB k ks = ds at *
        obtain ⟨z0, z1, z2, z3, z4, z5, z6, z7⟩ := Pw9.out.B.cells
        go_wp2_with fail
        refine HDR.out.mono ?_
        rintro e w10 ⟨k4, v4, d4, rfl, hpp, y⟩
        clear z0 z1 z2 z3 z4 z5 z6 z7
        obtain ⟨kn4, ka4, kc4, e1⟩ := hpp.keys.any
        obtain ⟨vn4, va4, vc4, e2⟩ := hpp.vals.any
        obtain ⟨dn4, da4, dc4, e3⟩ := hpp.kids.any
        subst e1 e2 e3
        have Pw10 : Hid (PIn w10 b7 (leafM ks) (.slice ka1 vn1 kc1) (.slice va1 vn1 vc1) (.slice da1 dn1 dc1)) := (Pw9.out).below y
        have Sw10 : Hid (PIn w10 b8 (leafM ks) (.slice ka2 kn2 kc2) (.slice va2 vn1 vc2) (.slice da2 dn2 dc2)) := (Sw9.out).below y
        have Qw10 : Hid (PIn w10 b15 q (.slice ka3 kn3 kc3) (.slice va3 vn3 vc3) (.slice da3 dn3 dc3)) := (Qw9.out).below y
        have Yw10 : Hid (Below w.heap.size w w10) := ext_trans Yw9.out y
        clear Pw9 Sw9 Qw9 Yw9 y
        clear HDR
        have Dw11 : Hid (PIn (w10.alloc (.cells #[.int .i64 (leafM ds).kind, .slice ka4 kn4 kc4, .slice va4 vn4 vc4, .slice da4 dn4 dc4, .int .i64 (leafM ds).root, .int .i64 (leafM ds).next, .int .i64 (leafM ds).size, .int .i64 (leafM ds).idle] 25)) w10.heap.size (leafM ds) (.slice ka4 kn4 kc4) (.slice va4 vn4 vc4) (.slice da4 dn4 dc4)) := PIn.new hpp
        have Pw11 : Hid (PIn (w10.alloc (.cells #[.int .i64 (leafM ds).kind, .slice ka4 kn4 kc4, .slice va4 vn4 vc4, .slice da4 dn4 dc4, .int .i64 (leafM ds).root, .int .i64 (leafM ds).next, .int .i64 (leafM ds).size, .int .i64 (leafM ds).idle] 25)) b7 (leafM ks) (.slice ka1 vn1 kc1) (.slice va1 vn1 vc1) (.slice da1 dn1 dc1)) := (Pw10.out).below (below_alloc _)
        have Sw11 : Hid (PIn (w10.alloc (.cells #[.int .i64 (leafM ds).kind, .slice ka4 kn4 kc4, .slice va4 vn4 vc4, .slice da4 dn4 dc4, .int .i64 (leafM ds).root, .int .i64 (leafM ds).next, .int .i64 (leafM ds).size, .int .i64 (leafM ds).idle] 25)) b8 (leafM ks) (.slice ka2 kn2 kc2) (.slice va2 vn1 vc2) (.slice da2 dn2 dc2)) := (Sw10.out).below (below_alloc _)
        have Qw11 : Hid (PIn (w10.alloc (.cells #[.int .i64 (leafM ds).kind, .slice ka4 kn4 kc4, .slice va4 vn4 vc4, .slice da4 dn4 dc4, .int .i64 (leafM ds).root, .int .i64 (leafM ds).next, .int .i64 (leafM ds).size, .int .i64 (leafM ds).idle] 25)) b15 q (.slice ka3 kn3 kc3) (.slice va3 vn3 vc3) (.slice da3 dn3 dc3)) := (Qw10.out).below (below_alloc _)
        have Yw11 : Hid (Below w.heap.size w (w10.alloc (.cells #[.int .i64 (leafM ds).kind, .slice ka4 kn4 kc4, .slice va4 vn4 vc4, .slice da4 dn4 dc4, .int .i64 (leafM ds).root, .int .i64 (leafM ds).next, .int .i64 (leafM ds).size, .int .i64 (leafM ds).idle] 25))) := Yw10.out.alloc Yw10.out.size _
        clear Pw10 Sw10 Qw10 Yw10 hpp
        try unfold pgv
        go_upto_region 17 with fail
        generalize (w10.alloc (.cells #[.int .i64 (leafM ds).kind, .slice ka4 kn4 kc4, .slice va4 vn4 vc4, .slice da4 dn4 dc4, .int .i64 (leafM ds).root, .int .i64 (leafM ds).next, .int .i64 (leafM ds).size, .int .i64 (leafM ds).idle] 25)) = w11 at *
        obtain ⟨b16, hb⟩ : ∃ b, w10.heap.size = b := ⟨_, rfl⟩
        rw [hb] at Dw11 ⊢
        clear hb
        have LI : Hid ((insB k ks).length = vn1) := by show _ = _; rw [ins_len, HH.out, ← HKN.out]; simp
        have LD : Hid (ds.length = vn1 - 1) := by show _ = _; rw [DL.out, HH.out, HKN.out]; simp
        have hq1 : vn1 = kn3 := by rw [(PIn.len Qw11.out.P).1, QK.out]; exact LI.out.symm
        have hq2 : vn1 = vn3 := by rw [(PIn.len Qw11.out.P).2.1, QV.out]; exact LI.out.symm
        have hd1 : vn1 - 1 = kn4 := by rw [(PIn.len Dw11.out.P).1]; exact LD.out.symm
        have hd2 : vn1 - 1 = vn4 := by rw [(PIn.len Dw11.out.P).2.1]; simp [leafM]; exact LD.out.symm
        subst hq1 hq2 hd1 hd2
        have hk1 : 1 ≤ vn1 := by rw [← HKN.out]; have := hasB_lt HH.out; omega
        have hc1 : ((vn1 - 1 : Nat) : Int) = (vn1 : Int) - 1 := by omega
        have HSM : Hid (∀ W, PgAt W (leafM ks) (.slice ka1 vn1 kc1) (.slice va1 vn1 vc1) (.slice da1 dn1 dc1) → PgAt W (leafM ks) (.slice ka2 kn2 kc2) (.slice va2 vn1 vc2) (.slice da2 dn2 dc2) → Calls Try.prog 22 #[pgv (leafM ks) (.slice ka1 vn1 kc1) (.slice va1 vn1 vc1) (.slice da1 dn1 dc1), pgv (leafM ks) (.slice ka2 kn2 kc2) (.slice va2 vn1 vc2) (.slice da2 dn2 dc2)] W fun e w' => e = .returned (.bool true) ∧ Below W.heap.size W w') := fun W h1 h2 => by have := psame_any (leafM ks) (leafM ks) _ _ _ _ _ _ W h1 h2; rw [(samePg_iff _ _).2 rfl] at this; exact this
        unfold pgv at HSM
        obtain ⟨x0, x1, x2, x3, x4, x5, x6, x7⟩ := Pw11.out.B.cells
        obtain ⟨s0, s1, s2, s3, s4, s5, s6, s7⟩ := Sw11.out.B.cells
        obtain ⟨z0, z1, z2, z3, z4, z5, z6, z7⟩ := Qw11.out.B.cells
        obtain ⟨g0, g1, g2, g3, g4, g5, g6, g7⟩ := Dw11.out.B.cells
        go_wp2_with fail
        refine (HSM.out _ Pw11.out.P Sw11.out.P).mono ?_
        rintro e w12 ⟨rfl, y⟩
        clear x0 x1 x2 x3 x4 x5 x6 x7
        clear s0 s1 s2 s3 s4 s5 s6 s7
        clear z0 z1 z2 z3 z4 z5 z6 z7
        clear g0 g1 g2 g3 g4 g5 g6 g7
        have Pw12 : Hid (PIn w12 b7 (leafM ks) (.slice ka1 vn1 kc1) (.slice va1 vn1 vc1) (.slice da1 dn1 dc1)) := (Pw11.out).below y
        have Sw12 : Hid (PIn w12 b8 (leafM ks) (.slice ka2 kn2 kc2) (.slice va2 vn1 vc2) (.slice da2 dn2 dc2)) := (Sw11.out).below y
        have Qw12 : Hid (PIn w12 b15 q (.slice ka3 vn1 kc3) (.slice va3 vn1 vc3) (.slice da3 dn3 dc3)) := (Qw11.out).below y
        have Dw12 : Hid (PIn w12 b16 (leafM ds) (.slice ka4 (vn1 - 1) kc4) (.slice va4 (vn1 - 1) vc4) (.slice da4 dn4 dc4)) := (Dw11.out).below y
        have Yw12 : Hid (Below w.heap.size w w12) := ext_trans Yw11.out y
        clear Pw11 Sw11 Qw11 Dw11 Yw11 y
        have hkl : (insB k ks).length ≤ 1000 := by have := LI.out; omega
        have hdl : ds.length ≤ 1000 := by have := LD.out; omega
        have GQ : Hid (∀ W o x, PgAt W q (.slice ka3 vn1 kc3) (.slice va3 vn1 vc3) (.slice da3 dn3 dc3) → getP q o = (x, true) → Calls Try.prog 27 #[pgv q (.slice ka3 vn1 kc3) (.slice va3 vn1 vc3) (.slice da3 dn3 dc3), .string o] W fun e w' => e = .returned (.tuple #[.string x, .bool true]) ∧ Below W.heap.size W w') := fun W o x h hg => getL_any q o _ _ _ _ _ W h (by rw [QK.out]; exact QR.out) (by rw [QK.out]; exact hkl) (by rw [QV.out]; exact hkl) hg
        have GD : Hid (∀ W o x is, PgAt W (leafM ds) (.slice ka4 (vn1 - 1) kc4) (.slice va4 (vn1 - 1) vc4) (.slice da4 dn4 dc4) → getP (leafM ds) o = (x, is) → Calls Try.prog 27 #[pgv (leafM ds) (.slice ka4 (vn1 - 1) kc4) (.slice va4 (vn1 - 1) vc4) (.slice da4 dn4 dc4), .string o] W fun e w' => e = .returned (.tuple #[.string x, .bool is]) ∧ Below W.heap.size W w') := fun W o x is h hg => getL_any (leafM ds) o _ _ _ _ _ W h DR.out hdl (by simp [leafM]; exact hdl) hg
        unfold pgv at GQ GD
        clear hkl hdl
        obtain ⟨z0, z1, z2, z3, z4, z5, z6, z7⟩ := Qw12.out.B.cells
        go_wp2_with fail
        refine (GQ.out _ _ _ Qw12.out.P QG.out).mono ?_
        rintro e w13 ⟨rfl, y⟩
        clear z0 z1 z2 z3 z4 z5 z6 z7
        have Pw13 : Hid (PIn w13 b7 (leafM ks) (.slice ka1 vn1 kc1) (.slice va1 vn1 vc1) (.slice da1 dn1 dc1)) := (Pw12.out).below y
        have Sw13 : Hid (PIn w13 b8 (leafM ks) (.slice ka2 kn2 kc2) (.slice va2 vn1 vc2) (.slice da2 dn2 dc2)) := (Sw12.out).below y
        have Qw13 : Hid (PIn w13 b15 q (.slice ka3 vn1 kc3) (.slice va3 vn1 vc3) (.slice da3 dn3 dc3)) := (Qw12.out).below y
        have Dw13 : Hid (PIn w13 b16 (leafM ds) (.slice ka4 (vn1 - 1) kc4) (.slice va4 (vn1 - 1) vc4) (.slice da4 dn4 dc4)) := (Dw12.out).below y
        have Yw13 : Hid (Below w.heap.size w w13) := ext_trans Yw12.out y
        clear Pw12 Sw12 Qw12 Dw12 Yw12 y
        obtain ⟨z0, z1, z2, z3, z4, z5, z6, z7⟩ := Dw13.out.B.cells
        go_wp2_with fail
        refine (GD.out _ _ _ _ Dw13.out.P DG.out).mono ?_
        rintro e w14 ⟨rfl, y⟩
        clear z0 z1 z2 z3 z4 z5 z6 z7
        have Pw14 : Hid (PIn w14 b7 (leafM ks) (.slice ka1 vn1 kc1) (.slice va1 vn1 vc1) (.slice da1 dn1 dc1)) := (Pw13.out).below y
        have Sw14 : Hid (PIn w14 b8 (leafM ks) (.slice ka2 kn2 kc2) (.slice va2 vn1 vc2) (.slice da2 dn2 dc2)) := (Sw13.out).below y
        have Qw14 : Hid (PIn w14 b15 q (.slice ka3 vn1 kc3) (.slice va3 vn1 vc3) (.slice da3 dn3 dc3)) := (Qw13.out).below y
        have Dw14 : Hid (PIn w14 b16 (leafM ds) (.slice ka4 (vn1 - 1) kc4) (.slice va4 (vn1 - 1) vc4) (.slice da4 dn4 dc4)) := (Dw13.out).below y
        have Yw14 : Hid (Below w.heap.size w w14) := ext_trans Yw13.out y
        clear Pw13 Sw13 Qw13 Dw13 Yw13 y
        have hvv : (v.toList == v.toList) = true := by simp
        obtain ⟨z0, z1, z2, z3, z4, z5, z6, z7⟩ := Pw14.out.B.cells
        go_wp2_with fail
        clear z0 z1 z2 z3 z4 z5 z6 z7
        go_loopw [188] (fun vj wr => ∃ j : Nat, vj = .int .i64 (j : Int) ∧ j ≤ vn1 ∧ Below w14.heap.size w14 wr) (fun vj _ => vn1 - (intOf vj).toNat)
        case atStart => exact ⟨0, rfl, Nat.zero_le _, Below.refl _ _⟩
        case round =>
          obtain ⟨j, rfl, hj, y⟩ := hrel
          rename World => w15
          have YY : Hid (Below w14.heap.size w14 w15) := y
          have Pw15 : Hid (PIn w15 b7 (leafM ks) (.slice ka1 vn1 kc1) (.slice va1 vn1 vc1) (.slice da1 dn1 dc1)) := (Pw14.out).below y
          have Sw15 : Hid (PIn w15 b8 (leafM ks) (.slice ka2 kn2 kc2) (.slice va2 vn1 vc2) (.slice da2 dn2 dc2)) := (Sw14.out).below y
          have Qw15 : Hid (PIn w15 b15 q (.slice ka3 vn1 kc3) (.slice va3 vn1 vc3) (.slice da3 dn3 dc3)) := (Qw14.out).below y
          have Dw15 : Hid (PIn w15 b16 (leafM ds) (.slice ka4 (vn1 - 1) kc4) (.slice va4 (vn1 - 1) vc4) (.slice da4 dn4 dc4)) := (Dw14.out).below y
          have Yw15 : Hid (Below w.heap.size w w15) := ext_trans Yw14.out y
          clear y
          by_cases hjn : j < vn1
          · have hjk : j < ks.length := by rw [HKN.out]; exact hjn
            have r3 := Pw15.out.P.keys.at.2.2.2
            obtain ⟨kad, hkad⟩ := r3.ad (by rw [sv_length]; show 0 < ks.length; omega)
            subst hkad
            have y1 : w15.cell? (kad.add j) = some (.string ks[j]) := r3.str (ss := ks) rfl hjk
            clear r3
            have HO : Hid (ks[j] ∈ ks) := List.getElem_mem hjk
            generalize ks[j] = o at *
            cases heq : (o.toList == k.toList) with
            | true =>
              go_wp2
              go_roundw
              case rel => exact ⟨j + 1, by go_num, hjn, YY.out⟩
              case measure => simp [intOf]; omega
            | false =>
              have HNE : Hid (o ≠ k) := fun e => by subst e; simp at heq
              have hoz : o.size ≤ 140737488351232 := HZK.out _ HO.out
              have h118 : ByteArray.size ⟨#[118]⟩ = 1 := rfl
              have hoo : ((vk o).toList == (⟨#[118]⟩ ++ o : ByteArray).toList) = true := by unfold vk; simp
              obtain ⟨z0, z1, z2, z3, z4, z5, z6, z7⟩ := Qw15.out.B.cells
              go_wp2_with fail
              refine (GQ.out _ o (vk o) Qw15.out.P (QO.out o HO.out HNE.out)).mono ?_
              rintro e w16 ⟨rfl, y⟩
              clear z0 z1 z2 z3 z4 z5 z6 z7
              have Dw16 : Hid (PIn w16 b16 (leafM ds) (.slice ka4 (vn1 - 1) kc4) (.slice va4 (vn1 - 1) vc4) (.slice da4 dn4 dc4)) := (Dw15.out).below y
              have YZ : Hid (Below w14.heap.size w14 w16) := ext_trans YY.out y
              clear y y1
              obtain ⟨z0, z1, z2, z3, z4, z5, z6, z7⟩ := Dw16.out.B.cells
              go_wp2_with fail
              refine (GD.out _ o (vk o) true Dw16.out.P (DO.out o HO.out HNE.out)).mono ?_
              rintro e w17 ⟨rfl, y⟩
              clear z0 z1 z2 z3 z4 z5 z6 z7
              have YX : Hid (Below w14.heap.size w14 w17) := ext_trans YZ.out y
              clear y
              go_wp2
              go_roundw
              case rel => exact ⟨j + 1, by go_num, hjn, YX.out⟩
              case measure => simp [intOf]; omega
          · clear hj YY
            have z1 := Qw15.out.B.cells.2.1
            go_wp2
            clear z1
            go_loopw [29] (fun vj wr => ∃ j : Nat, vj = .int .i64 (j : Int) ∧ 1 ≤ j ∧ j ≤ vn1 + 1 ∧ Below w15.heap.size w15 wr) (fun vj _ => vn1 + 1 - (intOf vj).toNat)
            case atStart => exact ⟨1, rfl, Nat.le_refl _, by omega, Below.refl _ _⟩
            case round =>
              obtain ⟨j, rfl, hj1, hj2, y⟩ := hrel
              rename World => w18
              have Q18 : Hid (PIn w18 b15 q (.slice ka3 vn1 kc3) (.slice va3 vn1 vc3) (.slice da3 dn3 dc3)) := Qw15.out.below y
              have P18 : Hid (PIn w18 b7 (leafM ks) (.slice ka1 vn1 kc1) (.slice va1 vn1 vc1) (.slice da1 dn1 dc1)) := Pw15.out.below y
              have Y18 : Hid (Below w.heap.size w w18) := ext_trans Yw15.out y
              have YQ : Hid (Below w15.heap.size w15 w18) := y
              clear y
              by_cases hjn : j < vn1
              · have hjk : j < (insB k ks).length := by rw [LI.out]; exact hjn
                have r3 := Q18.out.P.keys.at.2.2.2
                rw [QK.out] at r3
                obtain ⟨kad, hkad⟩ := r3.ad (by rw [sv_length]; omega)
                subst hkad
                have y1 : w18.cell? (kad.add j) = some (.string (insB k ks)[j]) := r3.str (ss := insB k ks) rfl hjk
                have y2 : w18.cell? (kad.add (j - 1)) = some (.string (insB k ks)[j - 1]) := r3.str (ss := insB k ks) rfl (by omega)
                clear r3
                have hlt : Op.bytesLess (insB k ks)[j - 1].toList (insB k ks)[j].toList = true := QR.out.le (by omega) hjk (by omega)
                generalize (insB k ks)[j] = xb at *
                generalize (insB k ks)[j - 1] = xa at *
                have z1 := Q18.out.B.cells.2.1
                obtain ⟨i, hij⟩ : ∃ i, j - 1 = i := ⟨_, rfl⟩
                rw [hij] at y2
                have HIJ : Hid (j - 1 = i) := hij
                have hwr : IntKind.i64.wrap ((j : Int) - 1) = (i : Int) := by rw [IntKind.wrap_i64]; omega
                have hi1 : (i : Int) < ((vn1 : Nat) : Int) := by omega
                have hi2 : (j : Int) < ((vn1 : Nat) : Int) := by omega
                have hi0 : i < vn1 := by omega
                clear hij
                go_wp2
                go_quiet (fail)
                go_wp2
                go_roundw
                case rel => exact ⟨j + 1, by go_num, by omega, by omega, ⟨YQ.out.os, YQ.out.tape, YQ.out.output, YQ.out.size, YQ.out.block⟩⟩
                case measure => simp [intOf]; omega
              · clear hj1 hj2 YQ
                have x1 := Q18.out.B.cells.2.1
                have HOV : Hid (∀ W, PgAt W (leafM ks) (.slice ka1 vn1 kc1) (.slice va1 vn1 vc1) (.slice da1 dn1 dc1) → Calls Try.prog 30 #[pgv (leafM ks) (.slice ka1 vn1 kc1) (.slice va1 vn1 vc1) (.slice da1 dn1 dc1)] W fun e w' => e = .returned (.bool (decide (6 < (vn1 : Int)))) ∧ Below W.heap.size W w') := fun W h => overL_any ks _ _ _ _ _ _ _ _ vn1 W h
                have HUN : Hid (∀ W, PgAt W (leafM ks) (.slice ka1 vn1 kc1) (.slice va1 vn1 vc1) (.slice da1 dn1 dc1) → Calls Try.prog 31 #[pgv (leafM ks) (.slice ka1 vn1 kc1) (.slice va1 vn1 vc1) (.slice da1 dn1 dc1)] W fun e w' => e = .returned (.bool (decide ((vn1 : Int) < 3))) ∧ Below W.heap.size W w') := fun W h => underL_any ks _ _ _ _ _ _ _ _ vn1 W h
                unfold pgv at HOV HUN
                obtain ⟨z0, z1, z2, z3, z4, z5, z6, z7⟩ := P18.out.B.cells
                go_wp2_with fail
                refine (HOV.out _ P18.out.P).mono ?_
                rintro e w19 ⟨rfl, y⟩
                clear z0 z1 z2 z3 z4 z5 z6 z7
                have P19 : Hid (PIn w19 b7 (leafM ks) (.slice ka1 vn1 kc1) (.slice va1 vn1 vc1) (.slice da1 dn1 dc1)) := P18.out.below y
                have Y19 : Hid (Below w.heap.size w w19) := ext_trans Y18.out y
                clear y
                obtain ⟨z0, z1, z2, z3, z4, z5, z6, z7⟩ := P19.out.B.cells
                go_wp2_with fail
                refine (HUN.out _ P19.out.P).mono ?_
                rintro e w20 ⟨rfl, y⟩
                clear z0 z1 z2 z3 z4 z5 z6 z7
                have Y20 : Hid (Below w.heap.size w w20) := ext_trans Y19.out y
                clear y
                go_wp2
                go_ret
                exact ⟨ret_bool (by simp), Y20.out⟩
set_option maxRecDepth 100000 in
set_option maxHeartbeats 4000000 in
theorem leaves_false (pa : Option Addr) (n c : Nat) (l : List ByteArray) (k v : ByteArray) (w : World) (hps : IsStrs w pa n c l) (hsz : ∀ k ∈ l, k.size ≤ 140737488351232) (hh : hasB k (ksOf l) = false) :
    Calls Try.prog 9 #[.slice pa n c, .string k, .string v] w fun e w' => e = .returned (.bool true) ∧ Below w.heap.size w w' := by
  have HR : Hid (Rd w (.slice pa n c) (sv l)) := isStrs_rd hps
  have HLN : Hid (l.length = n) := hps.1
  have hnm : n ≤ 9223372036854775807 := Nat.le_trans hps.2.1 hps.2.2.1
  have HZ : Hid (∀ k ∈ l, k.size ≤ 140737488351232) := hsz
  clear hps hsz
  go_enter Try.func9, Try.ntmps9
  go_wp2_with fail
  refine (head7_any _).mono ?_
  rintro e w1 ⟨rfl, y⟩
  have Y1 : Hid (Below w.heap.size w w1) := y
  clear y
  by_cases h20 : 20 < n
  · go_wp2_with fail
    go_ret
    exact ⟨ret_bool rfl, Y1.out⟩
  · go_wp2_with fail
    refine (leaf_any _ l _ (HR.out.below Y1.out) (by have := HLN.out; omega) HZ.out).mono ?_
    rintro e w2 ⟨kv, vv, dv, rfl, ho, y⟩
    have hpp := ho.at
    clear ho
    obtain ⟨kn1, ka1, kc1, e1⟩ := hpp.keys.any
    obtain ⟨vn1, va1, vc1, e2⟩ := hpp.vals.any
    obtain ⟨dn1, da1, dc1, e3⟩ := hpp.kids.any
    subst e1 e2 e3
    have HKN : Hid ((ksOf l).length = kn1) := by show _ = _; exact (PIn.len hpp).1.symm
    have hvn : vn1 = kn1 := by rw [(PIn.len hpp).2.1, ← HKN.out]; simp [leafM]
    subst hvn
    have hk20 : vn1 ≤ 20 := by have h1 := ksOf_length l; have h2 := HLN.out; have h3 := HKN.out; omega
    have HRI : Hid (RisB (ksOf l)) := ksOf_rising l
    have HZK : Hid (∀ o ∈ ksOf l, o.size ≤ 140737488351232) := fun o ho => HZ.out o (ksOf_mem l o ho)
    have Y2 : Hid (Below w.heap.size w w2) := ext_trans Y1.out y
    clear y Y1 HZ HR
    generalize ksOf l = ks at *
    have Pw3 : Hid (PIn (w2.alloc (.cells #[.int .i64 (leafM ks).kind, .slice ka1 vn1 kc1, .slice va1 vn1 vc1, .slice da1 dn1 dc1, .int .i64 (leafM ks).root, .int .i64 (leafM ks).next, .int .i64 (leafM ks).size, .int .i64 (leafM ks).idle] 25)) w2.heap.size (leafM ks) (.slice ka1 vn1 kc1) (.slice va1 vn1 vc1) (.slice da1 dn1 dc1)) := PIn.new hpp
    have Yw3 : Hid (Below w.heap.size w (w2.alloc (.cells #[.int .i64 (leafM ks).kind, .slice ka1 vn1 kc1, .slice va1 vn1 vc1, .slice da1 dn1 dc1, .int .i64 (leafM ks).root, .int .i64 (leafM ks).next, .int .i64 (leafM ks).size, .int .i64 (leafM ks).idle] 25))) := Y2.out.alloc Y2.out.size _
    clear hpp Y2
    try unfold pgv
    go_upto_region 6 with fail
    generalize (w2.alloc (.cells #[.int .i64 (leafM ks).kind, .slice ka1 vn1 kc1, .slice va1 vn1 vc1, .slice da1 dn1 dc1, .int .i64 (leafM ks).root, .int .i64 (leafM ks).next, .int .i64 (leafM ks).size, .int .i64 (leafM ks).idle] 25)) = w3 at *
    obtain ⟨b7, hb⟩ : ∃ b, w2.heap.size = b := ⟨_, rfl⟩
    rw [hb] at Pw3 ⊢
    clear hb
    have HCL : Hid (Calls Try.prog 23 #[pgv (leafM ks) (.slice ka1 vn1 kc1) (.slice va1 vn1 vc1) (.slice da1 dn1 dc1)] w3 _) := pclone_any (leafM ks) _ _ _ w3 Pw3.out.P ⟨by show ks.length < _; have := HKN.out; omega, by simp [leafM]; have := HKN.out; omega, by simp [leafM]⟩
    unfold pgv at HCL
    obtain ⟨z0, z1, z2, z3, z4, z5, z6, z7⟩ := Pw3.out.B.cells
    go_wp2_with fail
    refine HCL.out.mono ?_
    rintro e w4 ⟨k2, v2, d2, rfl, ho, y⟩
    clear z0 z1 z2 z3 z4 z5 z6 z7
    have hpp := ho.at
    clear ho HCL
    obtain ⟨kn2, ka2, kc2, e1⟩ := hpp.keys.any
    obtain ⟨vn2, va2, vc2, e2⟩ := hpp.vals.any
    obtain ⟨dn2, da2, dc2, e3⟩ := hpp.kids.any
    subst e1 e2 e3
    have P4 : Hid (PIn w4 b7 (leafM ks) (.slice ka1 vn1 kc1) (.slice va1 vn1 vc1) (.slice da1 dn1 dc1)) := (Pw3.out).below y
    have Y4 : Hid (Below w.heap.size w w4) := ext_trans Yw3.out y
    clear Pw3 Yw3 y
    have Sw5 : Hid (PIn (w4.alloc (.cells #[.int .i64 (leafM ks).kind, .slice ka2 kn2 kc2, .slice va2 vn2 vc2, .slice da2 dn2 dc2, .int .i64 (leafM ks).root, .int .i64 (leafM ks).next, .int .i64 (leafM ks).size, .int .i64 (leafM ks).idle] 25)) w4.heap.size (leafM ks) (.slice ka2 kn2 kc2) (.slice va2 vn2 vc2) (.slice da2 dn2 dc2)) := PIn.new hpp
    have Pw5 : Hid (PIn (w4.alloc (.cells #[.int .i64 (leafM ks).kind, .slice ka2 kn2 kc2, .slice va2 vn2 vc2, .slice da2 dn2 dc2, .int .i64 (leafM ks).root, .int .i64 (leafM ks).next, .int .i64 (leafM ks).size, .int .i64 (leafM ks).idle] 25)) b7 (leafM ks) (.slice ka1 vn1 kc1) (.slice va1 vn1 vc1) (.slice da1 dn1 dc1)) := (P4.out).below (below_alloc _)
    have Yw5 : Hid (Below w.heap.size w (w4.alloc (.cells #[.int .i64 (leafM ks).kind, .slice ka2 kn2 kc2, .slice va2 vn2 vc2, .slice da2 dn2 dc2, .int .i64 (leafM ks).root, .int .i64 (leafM ks).next, .int .i64 (leafM ks).size, .int .i64 (leafM ks).idle] 25))) := Y4.out.alloc Y4.out.size _
    clear P4 Y4 hpp
    try unfold pgv
    go_upto_region 7 with fail
    generalize (w4.alloc (.cells #[.int .i64 (leafM ks).kind, .slice ka2 kn2 kc2, .slice va2 vn2 vc2, .slice da2 dn2 dc2, .int .i64 (leafM ks).root, .int .i64 (leafM ks).next, .int .i64 (leafM ks).size, .int .i64 (leafM ks).idle] 25)) = w5 at *
    obtain ⟨b8, hb⟩ : ∃ b, w4.heap.size = b := ⟨_, rfl⟩
    rw [hb] at Sw5 ⊢
    clear hb
    have hvk : vn1 = vn2 := by rw [(PIn.len Sw5.out.P).2.1, ← HKN.out]; simp [leafM]
    subst hvk
    go_upto_block 0 with fail
    go_cut [9] from 39 to 54 (fun s9 wx => s9 = .int .i64 (idxB k ks : Int) ∧ wx = w5)
    case first =>
      have HLE : Hid (idxB k ks ≤ ks.length) := idxB_le _ _
      have r3 := Pw5.out.P.keys.at.2.2.2
      have R3 : Hid (RdAt w5 ka1 kc1 (sv ks)) := r3
      clear r3
      have z1 := Pw5.out.B.cells.2.1
      go_wp2_with fail
      go_loopw [9] (fun va wr => ∃ a : Nat, va = .int .i64 (a : Int) ∧ a ≤ idxB k ks ∧ w5 = wr) (fun va _ => vn1 - (intOf va).toNat)
      case atStart => exact ⟨0, rfl, Nat.zero_le _, rfl⟩
      case round =>
        obtain ⟨a, rfl, ha, rfl⟩ := hrel
        by_cases hai : a < idxB k ks
        · have hak : a < ks.length := Nat.lt_of_lt_of_le hai HLE.out
          have hak' : a < vn1 := by rw [← HKN.out]; exact hak
          obtain ⟨kad, hkad⟩ := R3.out.ad (by rw [sv_length]; omega)
          subst hkad
          have y2 := R3.out.str rfl hak
          have hb : Op.bytesLess ks[a].toList k.toList = true := idxB_lt k ks a hak hai
          generalize ks[a] = x at *
          go_wp2
          go_roundw
          case rel => exact ⟨a + 1, by go_num, hai, trivial⟩
          case measure => simp [intOf]; omega
        · have hae : a = idxB k ks := by omega
          have HAE : Hid (a = idxB k ks) := hae
          by_cases hak' : a < vn1
          · have hak : a < ks.length := by rw [HKN.out]; exact hak'
            obtain ⟨kad, hkad⟩ := R3.out.ad (by rw [sv_length]; omega)
            subst hkad
            have y2 := R3.out.str rfl hak
            have hb : Op.bytesLess ks[a].toList k.toList = false := by have := idxB_at k ks (by rw [← hae]; exact hak); simp only [← hae] at this; exact this
            generalize ks[a] = x at *
            clear hae hai ha
            go_wp2
            go_meet
            case rel => exact ⟨by rw [HAE.out], rfl⟩
          · have hake : a = vn1 := by have := HLE.out; have := HKN.out; omega
            clear hae hai ha hake
            go_wp2
            go_meet
            case rel => exact ⟨by rw [HAE.out], rfl⟩
    case rest =>
      obtain ⟨rfl, rfl⟩ := hcut
      have P5 : Hid _ := Pw5.out
      have S5 : Hid _ := Sw5.out
      have Y5 : Hid _ := Yw5.out
      clear Pw5 Sw5 Yw5
      rename World => w5
      go_upto_region 10 with fail
      go_cut [10] from 55 to 68 (fun s10 wx => s10 = .bool false ∧ wx = w5)
      case first =>
        have HLE : Hid (idxB k ks ≤ ks.length) := idxB_le _ _
        have r3 := P5.out.P.keys.at.2.2.2
        have z1 := P5.out.B.cells.2.1
        have h0 := hasB_at k ks
        by_cases hak' : idxB k ks < vn1
        · have hak : idxB k ks < ks.length := by rw [HKN.out]; exact hak'
          obtain ⟨kad, hkad⟩ := r3.ad (by rw [sv_length]; show 0 < ks.length; omega)
          subst hkad
          have y2 : w5.cell? (kad.add (idxB k ks)) = some (.string ks[idxB k ks]) := r3.str (ss := ks) rfl hak
          rw [hh, List.getElem?_eq_getElem hak] at h0
          have hq : (ks[idxB k ks].toList == k.toList) = false := by rw [beq_str]; exact h0.symm
          clear h0 r3
          generalize ks[idxB k ks] = x at *
          generalize idxB k ks = ix at *
          go_wp2
          go_meet
          case rel => exact ⟨rfl, rfl⟩
        · rw [hh, List.getElem?_eq_none (by rw [HKN.out]; omega)] at h0
          clear h0 r3
          generalize idxB k ks = ix at *
          go_wp2
          go_meet
          case rel => exact ⟨rfl, rfl⟩
      case rest =>
        obtain ⟨rfl, rfl⟩ := hcut
        rename World => w5
        have HH : Hid (hasB k ks = false) := hh
        have HAT : Hid (∀ W, PgAt W (leafM ks) (.slice ka1 vn1 kc1) (.slice va1 vn1 vc1) (.slice da1 dn1 dc1) → Calls Try.prog 26 #[pgv (leafM ks) (.slice ka1 vn1 kc1) (.slice va1 vn1 vc1) (.slice da1 dn1 dc1), .string k] W fun e w' => e = .returned (.tuple #[.int .i64 (idxB k ks : Int), .bool false]) ∧ Below W.heap.size W w') := fun W h => by have := atL_any ks k _ _ _ W h HRI.out (by have := HKN.out; omega); rw [HH.out] at this; exact this
        have HGT : Hid (∀ W, PgAt W (leafM ks) (.slice ka1 vn1 kc1) (.slice va1 vn1 vc1) (.slice da1 dn1 dc1) → Calls Try.prog 27 #[pgv (leafM ks) (.slice ka1 vn1 kc1) (.slice va1 vn1 vc1) (.slice da1 dn1 dc1), .string k] W fun e w' => e = .returned (.tuple #[.string .empty, .bool false]) ∧ Below W.heap.size W w') := fun W h => getL_any (leafM ks) k _ _ _ _ _ W h HRI.out (by show ks.length ≤ _; have := HKN.out; omega) (by have h1 := HKN.out; have h2 := (PIn.len h).2.1; simp [leafM]; omega) (by rw [get_M HRI.out, HH.out]; rfl)
        unfold pgv at HAT HGT
        have HIX : Hid (idxB k ks ≤ vn1) := by show _ ≤ _; rw [← HKN.out]; exact idxB_le _ _
        have hix : idxB k ks ≤ vn1 := HIX.out
        obtain ⟨ix, hxx⟩ : ∃ ix, idxB k ks = ix := ⟨_, rfl⟩
        rw [hxx] at HAT hix ⊢
        clear hxx HIX hh
        obtain ⟨z0, z1, z2, z3, z4, z5, z6, z7⟩ := P5.out.B.cells
        go_wp2_with fail
        refine (HAT.out _ P5.out.P).mono ?_
        rintro e w6 ⟨rfl, y⟩
        clear z0 z1 z2 z3 z4 z5 z6 z7
        have P6 : Hid (PIn w6 b7 (leafM ks) (.slice ka1 vn1 kc1) (.slice va1 vn1 vc1) (.slice da1 dn1 dc1)) := (P5.out).below y
        have S6 : Hid (PIn w6 b8 (leafM ks) (.slice ka2 kn2 kc2) (.slice va2 vn1 vc2) (.slice da2 dn2 dc2)) := (S5.out).below y
        have Y6 : Hid (Below w.heap.size w w6) := ext_trans Y5.out y
        clear P5 S5 Y5 y
        clear HAT
        obtain ⟨z0, z1, z2, z3, z4, z5, z6, z7⟩ := P6.out.B.cells
        go_wp2_with fail
        refine (HGT.out _ P6.out.P).mono ?_
        rintro e w7 ⟨rfl, y⟩
        clear z0 z1 z2 z3 z4 z5 z6 z7
        have P7 : Hid (PIn w7 b7 (leafM ks) (.slice ka1 vn1 kc1) (.slice va1 vn1 vc1) (.slice da1 dn1 dc1)) := (P6.out).below y
        have S7 : Hid (PIn w7 b8 (leafM ks) (.slice ka2 kn2 kc2) (.slice va2 vn1 vc2) (.slice da2 dn2 dc2)) := (S6.out).below y
        have Y7 : Hid (Below w.heap.size w w7) := ext_trans Y6.out y
        clear P6 S6 Y6 y
        clear HGT
        have HPT : Hid (Calls Try.prog 28 #[pgv (leafM ks) (.slice ka1 vn1 kc1) (.slice va1 vn1 vc1) (.slice da1 dn1 dc1), .string k, .string v] w7 _) := nput_any (leafM ks) k v _ _ _ w7 P7.out.P (leafP_M ks) HRI.out ⟨by show ks.length ≤ _; have := HKN.out; omega, by have h1 := HKN.out; simp [leafM]; omega, by simp [leafM]⟩
        unfold pgv at HPT
        have QK : Hid ((putP (leafM ks) k v).keys = insB k ks) := put_keys k v
        have QV : Hid ((putP (leafM ks) k v).vals.length = (insB k ks).length) := put_len k v
        have QG : Hid (getP (putP (leafM ks) k v) k = (v, true)) := get_put_self k v HRI.out
        have QO : Hid (∀ o ∈ ks, o ≠ k → getP (putP (leafM ks) k v) o = (vk o, true)) := fun o ho hne => get_put_other k v HRI.out ho hne
        have QR : Hid (RisB (insB k ks)) := insB_rising k ks HRI.out
        obtain ⟨q, hqq⟩ : ∃ q, putP (leafM ks) k v = q := ⟨_, rfl⟩
        rw [hqq] at HPT QK QV QG QO
        clear hqq
        obtain ⟨z0, z1, z2, z3, z4, z5, z6, z7⟩ := P7.out.B.cells
        go_wp2_with fail
        refine HPT.out.mono ?_
        rintro e w8 ⟨k3, v3, d3, rfl, hpp, y⟩
        clear z0 z1 z2 z3 z4 z5 z6 z7
        obtain ⟨kn3, ka3, kc3, e1⟩ := hpp.keys.any
        obtain ⟨vn3, va3, vc3, e2⟩ := hpp.vals.any
        obtain ⟨dn3, da3, dc3, e3⟩ := hpp.kids.any
        subst e1 e2 e3
        have P8 : Hid (PIn w8 b7 (leafM ks) (.slice ka1 vn1 kc1) (.slice va1 vn1 vc1) (.slice da1 dn1 dc1)) := (P7.out).below y
        have S8 : Hid (PIn w8 b8 (leafM ks) (.slice ka2 kn2 kc2) (.slice va2 vn1 vc2) (.slice da2 dn2 dc2)) := (S7.out).below y
        have Y8 : Hid (Below w.heap.size w w8) := ext_trans Y7.out y
        clear P7 S7 Y7 y
        clear HPT
        have Qw9 : Hid (PIn (w8.alloc (.cells #[.int .i64 q.kind, .slice ka3 kn3 kc3, .slice va3 vn3 vc3, .slice da3 dn3 dc3, .int .i64 q.root, .int .i64 q.next, .int .i64 q.size, .int .i64 q.idle] 25)) w8.heap.size q (.slice ka3 kn3 kc3) (.slice va3 vn3 vc3) (.slice da3 dn3 dc3)) := PIn.new hpp
        have Pw9 : Hid (PIn (w8.alloc (.cells #[.int .i64 q.kind, .slice ka3 kn3 kc3, .slice va3 vn3 vc3, .slice da3 dn3 dc3, .int .i64 q.root, .int .i64 q.next, .int .i64 q.size, .int .i64 q.idle] 25)) b7 (leafM ks) (.slice ka1 vn1 kc1) (.slice va1 vn1 vc1) (.slice da1 dn1 dc1)) := (P8.out).below (below_alloc _)
        have Sw9 : Hid (PIn (w8.alloc (.cells #[.int .i64 q.kind, .slice ka3 kn3 kc3, .slice va3 vn3 vc3, .slice da3 dn3 dc3, .int .i64 q.root, .int .i64 q.next, .int .i64 q.size, .int .i64 q.idle] 25)) b8 (leafM ks) (.slice ka2 kn2 kc2) (.slice va2 vn1 vc2) (.slice da2 dn2 dc2)) := (S8.out).below (below_alloc _)
        have Yw9 : Hid (Below w.heap.size w (w8.alloc (.cells #[.int .i64 q.kind, .slice ka3 kn3 kc3, .slice va3 vn3 vc3, .slice da3 dn3 dc3, .int .i64 q.root, .int .i64 q.next, .int .i64 q.size, .int .i64 q.idle] 25))) := Y8.out.alloc Y8.out.size _
        clear P8 S8 Y8 hpp
        try unfold pgv
        go_upto_region 16 with fail
        generalize (w8.alloc (.cells #[.int .i64 q.kind, .slice ka3 kn3 kc3, .slice va3 vn3 vc3, .slice da3 dn3 dc3, .int .i64 q.root, .int .i64 q.next, .int .i64 q.size, .int .i64 q.idle] 25)) = w9 at *
        obtain ⟨b15, hb⟩ : ∃ b, w8.heap.size = b := ⟨_, rfl⟩
        rw [hb] at Qw9 ⊢
        clear hb
        have HDR : Hid (Calls Try.prog 29 #[pgv (leafM ks) (.slice ka1 vn1 kc1) (.slice va1 vn1 vc1) (.slice da1 dn1 dc1), .string k] w9 _) := ndrop_any (leafM ks) k _ _ _ w9 Pw9.out.P (leafP_M ks) HRI.out ⟨by show ks.length ≤ _; have := HKN.out; omega, by have h1 := HKN.out; simp [leafM]; omega, by simp [leafM]⟩
        unfold pgv at HDR
        rw [drop_leafM] at HDR
        have DR : Hid (RisB (delB k ks)) := delB_ris HRI.out k
        have DL : Hid ((delB k ks).length = if hasB k ks = true then ks.length - 1 else ks.length) := delB_length k
        have DG : Hid (getP (leafM (delB k ks)) k = (.empty, false)) := by have := get_drop_self k HRI.out; rw [drop_leafM] at this; exact this
        have DO : Hid (∀ o ∈ ks, o ≠ k → getP (leafM (delB k ks)) o = (vk o, true)) := fun o ho hne => by have := get_drop_other k HRI.out ho hne; rw [drop_leafM] at this; exact this
        generalize delB k ks = ds at *
        obtain ⟨z0, z1, z2, z3, z4, z5, z6, z7⟩ := Pw9.out.B.cells
        go_wp2_with fail
        refine HDR.out.mono ?_
        rintro e w10 ⟨k4, v4, d4, rfl, hpp, y⟩
        clear z0 z1 z2 z3 z4 z5 z6 z7
        obtain ⟨kn4, ka4, kc4, e1⟩ := hpp.keys.any
        obtain ⟨vn4, va4, vc4, e2⟩ := hpp.vals.any
        obtain ⟨dn4, da4, dc4, e3⟩ := hpp.kids.any
        subst e1 e2 e3
        have Pw10 : Hid (PIn w10 b7 (leafM ks) (.slice ka1 vn1 kc1) (.slice va1 vn1 vc1) (.slice da1 dn1 dc1)) := (Pw9.out).below y
        have Sw10 : Hid (PIn w10 b8 (leafM ks) (.slice ka2 kn2 kc2) (.slice va2 vn1 vc2) (.slice da2 dn2 dc2)) := (Sw9.out).below y
        have Qw10 : Hid (PIn w10 b15 q (.slice ka3 kn3 kc3) (.slice va3 vn3 vc3) (.slice da3 dn3 dc3)) := (Qw9.out).below y
        have Yw10 : Hid (Below w.heap.size w w10) := ext_trans Yw9.out y
        clear Pw9 Sw9 Qw9 Yw9 y
        clear HDR
        have Dw11 : Hid (PIn (w10.alloc (.cells #[.int .i64 (leafM ds).kind, .slice ka4 kn4 kc4, .slice va4 vn4 vc4, .slice da4 dn4 dc4, .int .i64 (leafM ds).root, .int .i64 (leafM ds).next, .int .i64 (leafM ds).size, .int .i64 (leafM ds).idle] 25)) w10.heap.size (leafM ds) (.slice ka4 kn4 kc4) (.slice va4 vn4 vc4) (.slice da4 dn4 dc4)) := PIn.new hpp
        have Pw11 : Hid (PIn (w10.alloc (.cells #[.int .i64 (leafM ds).kind, .slice ka4 kn4 kc4, .slice va4 vn4 vc4, .slice da4 dn4 dc4, .int .i64 (leafM ds).root, .int .i64 (leafM ds).next, .int .i64 (leafM ds).size, .int .i64 (leafM ds).idle] 25)) b7 (leafM ks) (.slice ka1 vn1 kc1) (.slice va1 vn1 vc1) (.slice da1 dn1 dc1)) := (Pw10.out).below (below_alloc _)
        have Sw11 : Hid (PIn (w10.alloc (.cells #[.int .i64 (leafM ds).kind, .slice ka4 kn4 kc4, .slice va4 vn4 vc4, .slice da4 dn4 dc4, .int .i64 (leafM ds).root, .int .i64 (leafM ds).next, .int .i64 (leafM ds).size, .int .i64 (leafM ds).idle] 25)) b8 (leafM ks) (.slice ka2 kn2 kc2) (.slice va2 vn1 vc2) (.slice da2 dn2 dc2)) := (Sw10.out).below (below_alloc _)
        have Qw11 : Hid (PIn (w10.alloc (.cells #[.int .i64 (leafM ds).kind, .slice ka4 kn4 kc4, .slice va4 vn4 vc4, .slice da4 dn4 dc4, .int .i64 (leafM ds).root, .int .i64 (leafM ds).next, .int .i64 (leafM ds).size, .int .i64 (leafM ds).idle] 25)) b15 q (.slice ka3 kn3 kc3) (.slice va3 vn3 vc3) (.slice da3 dn3 dc3)) := (Qw10.out).below (below_alloc _)
        have Yw11 : Hid (Below w.heap.size w (w10.alloc (.cells #[.int .i64 (leafM ds).kind, .slice ka4 kn4 kc4, .slice va4 vn4 vc4, .slice da4 dn4 dc4, .int .i64 (leafM ds).root, .int .i64 (leafM ds).next, .int .i64 (leafM ds).size, .int .i64 (leafM ds).idle] 25))) := Yw10.out.alloc Yw10.out.size _
        clear Pw10 Sw10 Qw10 Yw10 hpp
        try unfold pgv
        go_upto_region 17 with fail
        generalize (w10.alloc (.cells #[.int .i64 (leafM ds).kind, .slice ka4 kn4 kc4, .slice va4 vn4 vc4, .slice da4 dn4 dc4, .int .i64 (leafM ds).root, .int .i64 (leafM ds).next, .int .i64 (leafM ds).size, .int .i64 (leafM ds).idle] 25)) = w11 at *
        obtain ⟨b16, hb⟩ : ∃ b, w10.heap.size = b := ⟨_, rfl⟩
        rw [hb] at Dw11 ⊢
        clear hb
        have LI : Hid ((insB k ks).length = vn1 + 1) := by show _ = _; rw [ins_len, HH.out, ← HKN.out]; simp
        have LD : Hid (ds.length = vn1) := by show _ = _; rw [DL.out, HH.out, HKN.out]; simp
        have hq1 : vn1 + 1 = kn3 := by rw [(PIn.len Qw11.out.P).1, QK.out]; exact LI.out.symm
        have hq2 : vn1 + 1 = vn3 := by rw [(PIn.len Qw11.out.P).2.1, QV.out]; exact LI.out.symm
        have hd1 : vn1 = kn4 := by rw [(PIn.len Dw11.out.P).1]; exact LD.out.symm
        have hd2 : vn1 = vn4 := by rw [(PIn.len Dw11.out.P).2.1]; simp [leafM]; exact LD.out.symm
        subst hq1 hq2 hd1 hd2
        have hc1 : ((vn1 + 1 : Nat) : Int) = (vn1 : Int) + 1 := by omega
        have HSM : Hid (∀ W, PgAt W (leafM ks) (.slice ka1 vn1 kc1) (.slice va1 vn1 vc1) (.slice da1 dn1 dc1) → PgAt W (leafM ks) (.slice ka2 kn2 kc2) (.slice va2 vn1 vc2) (.slice da2 dn2 dc2) → Calls Try.prog 22 #[pgv (leafM ks) (.slice ka1 vn1 kc1) (.slice va1 vn1 vc1) (.slice da1 dn1 dc1), pgv (leafM ks) (.slice ka2 kn2 kc2) (.slice va2 vn1 vc2) (.slice da2 dn2 dc2)] W fun e w' => e = .returned (.bool true) ∧ Below W.heap.size W w') := fun W h1 h2 => by have := psame_any (leafM ks) (leafM ks) _ _ _ _ _ _ W h1 h2; rw [(samePg_iff _ _).2 rfl] at this; exact this
        unfold pgv at HSM
        obtain ⟨x0, x1, x2, x3, x4, x5, x6, x7⟩ := Pw11.out.B.cells
        obtain ⟨s0, s1, s2, s3, s4, s5, s6, s7⟩ := Sw11.out.B.cells
        obtain ⟨z0, z1, z2, z3, z4, z5, z6, z7⟩ := Qw11.out.B.cells
        obtain ⟨g0, g1, g2, g3, g4, g5, g6, g7⟩ := Dw11.out.B.cells
        go_wp2_with fail
        refine (HSM.out _ Pw11.out.P Sw11.out.P).mono ?_
        rintro e w12 ⟨rfl, y⟩
        clear x0 x1 x2 x3 x4 x5 x6 x7
        clear s0 s1 s2 s3 s4 s5 s6 s7
        clear z0 z1 z2 z3 z4 z5 z6 z7
        clear g0 g1 g2 g3 g4 g5 g6 g7
        have Pw12 : Hid (PIn w12 b7 (leafM ks) (.slice ka1 vn1 kc1) (.slice va1 vn1 vc1) (.slice da1 dn1 dc1)) := (Pw11.out).below y
        have Sw12 : Hid (PIn w12 b8 (leafM ks) (.slice ka2 kn2 kc2) (.slice va2 vn1 vc2) (.slice da2 dn2 dc2)) := (Sw11.out).below y
        have Qw12 : Hid (PIn w12 b15 q (.slice ka3 (vn1 + 1) kc3) (.slice va3 (vn1 + 1) vc3) (.slice da3 dn3 dc3)) := (Qw11.out).below y
        have Dw12 : Hid (PIn w12 b16 (leafM ds) (.slice ka4 vn1 kc4) (.slice va4 vn1 vc4) (.slice da4 dn4 dc4)) := (Dw11.out).below y
        have Yw12 : Hid (Below w.heap.size w w12) := ext_trans Yw11.out y
        clear Pw11 Sw11 Qw11 Dw11 Yw11 y
        have hkl : (insB k ks).length ≤ 1000 := by have := LI.out; omega
        have hdl : ds.length ≤ 1000 := by have := LD.out; omega
        have GQ : Hid (∀ W o x, PgAt W q (.slice ka3 (vn1 + 1) kc3) (.slice va3 (vn1 + 1) vc3) (.slice da3 dn3 dc3) → getP q o = (x, true) → Calls Try.prog 27 #[pgv q (.slice ka3 (vn1 + 1) kc3) (.slice va3 (vn1 + 1) vc3) (.slice da3 dn3 dc3), .string o] W fun e w' => e = .returned (.tuple #[.string x, .bool true]) ∧ Below W.heap.size W w') := fun W o x h hg => getL_any q o _ _ _ _ _ W h (by rw [QK.out]; exact QR.out) (by rw [QK.out]; exact hkl) (by rw [QV.out]; exact hkl) hg
        have GD : Hid (∀ W o x is, PgAt W (leafM ds) (.slice ka4 vn1 kc4) (.slice va4 vn1 vc4) (.slice da4 dn4 dc4) → getP (leafM ds) o = (x, is) → Calls Try.prog 27 #[pgv (leafM ds) (.slice ka4 vn1 kc4) (.slice va4 vn1 vc4) (.slice da4 dn4 dc4), .string o] W fun e w' => e = .returned (.tuple #[.string x, .bool is]) ∧ Below W.heap.size W w') := fun W o x is h hg => getL_any (leafM ds) o _ _ _ _ _ W h DR.out hdl (by simp [leafM]; exact hdl) hg
        unfold pgv at GQ GD
        clear hkl hdl
        obtain ⟨z0, z1, z2, z3, z4, z5, z6, z7⟩ := Qw12.out.B.cells
        go_wp2_with fail
        refine (GQ.out _ _ _ Qw12.out.P QG.out).mono ?_
        rintro e w13 ⟨rfl, y⟩
        clear z0 z1 z2 z3 z4 z5 z6 z7
        have Pw13 : Hid (PIn w13 b7 (leafM ks) (.slice ka1 vn1 kc1) (.slice va1 vn1 vc1) (.slice da1 dn1 dc1)) := (Pw12.out).below y
        have Sw13 : Hid (PIn w13 b8 (leafM ks) (.slice ka2 kn2 kc2) (.slice va2 vn1 vc2) (.slice da2 dn2 dc2)) := (Sw12.out).below y
        have Qw13 : Hid (PIn w13 b15 q (.slice ka3 (vn1 + 1) kc3) (.slice va3 (vn1 + 1) vc3) (.slice da3 dn3 dc3)) := (Qw12.out).below y
        have Dw13 : Hid (PIn w13 b16 (leafM ds) (.slice ka4 vn1 kc4) (.slice va4 vn1 vc4) (.slice da4 dn4 dc4)) := (Dw12.out).below y
        have Yw13 : Hid (Below w.heap.size w w13) := ext_trans Yw12.out y
        clear Pw12 Sw12 Qw12 Dw12 Yw12 y
        obtain ⟨z0, z1, z2, z3, z4, z5, z6, z7⟩ := Dw13.out.B.cells
        go_wp2_with fail
        refine (GD.out _ _ _ _ Dw13.out.P DG.out).mono ?_
        rintro e w14 ⟨rfl, y⟩
        clear z0 z1 z2 z3 z4 z5 z6 z7
        have Pw14 : Hid (PIn w14 b7 (leafM ks) (.slice ka1 vn1 kc1) (.slice va1 vn1 vc1) (.slice da1 dn1 dc1)) := (Pw13.out).below y
        have Sw14 : Hid (PIn w14 b8 (leafM ks) (.slice ka2 kn2 kc2) (.slice va2 vn1 vc2) (.slice da2 dn2 dc2)) := (Sw13.out).below y
        have Qw14 : Hid (PIn w14 b15 q (.slice ka3 (vn1 + 1) kc3) (.slice va3 (vn1 + 1) vc3) (.slice da3 dn3 dc3)) := (Qw13.out).below y
        have Dw14 : Hid (PIn w14 b16 (leafM ds) (.slice ka4 vn1 kc4) (.slice va4 vn1 vc4) (.slice da4 dn4 dc4)) := (Dw13.out).below y
        have Yw14 : Hid (Below w.heap.size w w14) := ext_trans Yw13.out y
        clear Pw13 Sw13 Qw13 Dw13 Yw13 y
        have hvv : (v.toList == v.toList) = true := by simp
        obtain ⟨z0, z1, z2, z3, z4, z5, z6, z7⟩ := Pw14.out.B.cells
        go_wp2_with fail
        clear z0 z1 z2 z3 z4 z5 z6 z7
        go_loopw [188] (fun vj wr => ∃ j : Nat, vj = .int .i64 (j : Int) ∧ j ≤ vn1 ∧ Below w14.heap.size w14 wr) (fun vj _ => vn1 - (intOf vj).toNat)
        case atStart => exact ⟨0, rfl, Nat.zero_le _, Below.refl _ _⟩
        case round =>
          obtain ⟨j, rfl, hj, y⟩ := hrel
          rename World => w15
          have YY : Hid (Below w14.heap.size w14 w15) := y
          have Pw15 : Hid (PIn w15 b7 (leafM ks) (.slice ka1 vn1 kc1) (.slice va1 vn1 vc1) (.slice da1 dn1 dc1)) := (Pw14.out).below y
          have Sw15 : Hid (PIn w15 b8 (leafM ks) (.slice ka2 kn2 kc2) (.slice va2 vn1 vc2) (.slice da2 dn2 dc2)) := (Sw14.out).below y
          have Qw15 : Hid (PIn w15 b15 q (.slice ka3 (vn1 + 1) kc3) (.slice va3 (vn1 + 1) vc3) (.slice da3 dn3 dc3)) := (Qw14.out).below y
          have Dw15 : Hid (PIn w15 b16 (leafM ds) (.slice ka4 vn1 kc4) (.slice va4 vn1 vc4) (.slice da4 dn4 dc4)) := (Dw14.out).below y
          have Yw15 : Hid (Below w.heap.size w w15) := ext_trans Yw14.out y
          clear y
          by_cases hjn : j < vn1
          · have hjk : j < ks.length := by rw [HKN.out]; exact hjn
            have r3 := Pw15.out.P.keys.at.2.2.2
            obtain ⟨kad, hkad⟩ := r3.ad (by rw [sv_length]; show 0 < ks.length; omega)
            subst hkad
            have y1 : w15.cell? (kad.add j) = some (.string ks[j]) := r3.str (ss := ks) rfl hjk
            clear r3
            have HO : Hid (ks[j] ∈ ks) := List.getElem_mem hjk
            generalize ks[j] = o at *
            cases heq : (o.toList == k.toList) with
            | true =>
              go_wp2
              go_roundw
              case rel => exact ⟨j + 1, by go_num, hjn, YY.out⟩
              case measure => simp [intOf]; omega
            | false =>
              have HNE : Hid (o ≠ k) := fun e => by subst e; simp at heq
              have hoz : o.size ≤ 140737488351232 := HZK.out _ HO.out
              have h118 : ByteArray.size ⟨#[118]⟩ = 1 := rfl
              have hoo : ((vk o).toList == (⟨#[118]⟩ ++ o : ByteArray).toList) = true := by unfold vk; simp
              obtain ⟨z0, z1, z2, z3, z4, z5, z6, z7⟩ := Qw15.out.B.cells
              go_wp2_with fail
              refine (GQ.out _ o (vk o) Qw15.out.P (QO.out o HO.out HNE.out)).mono ?_
              rintro e w16 ⟨rfl, y⟩
              clear z0 z1 z2 z3 z4 z5 z6 z7
              have Dw16 : Hid (PIn w16 b16 (leafM ds) (.slice ka4 vn1 kc4) (.slice va4 vn1 vc4) (.slice da4 dn4 dc4)) := (Dw15.out).below y
              have YZ : Hid (Below w14.heap.size w14 w16) := ext_trans YY.out y
              clear y y1
              obtain ⟨z0, z1, z2, z3, z4, z5, z6, z7⟩ := Dw16.out.B.cells
              go_wp2_with fail
              refine (GD.out _ o (vk o) true Dw16.out.P (DO.out o HO.out HNE.out)).mono ?_
              rintro e w17 ⟨rfl, y⟩
              clear z0 z1 z2 z3 z4 z5 z6 z7
              have YX : Hid (Below w14.heap.size w14 w17) := ext_trans YZ.out y
              clear y
              go_wp2
              go_roundw
              case rel => exact ⟨j + 1, by go_num, hjn, YX.out⟩
              case measure => simp [intOf]; omega
          · clear hj YY
            have z1 := Qw15.out.B.cells.2.1
            go_wp2
            clear z1
            go_loopw [29] (fun vj wr => ∃ j : Nat, vj = .int .i64 (j : Int) ∧ 1 ≤ j ∧ j ≤ vn1 + 1 + 1 ∧ Below w15.heap.size w15 wr) (fun vj _ => vn1 + 1 + 1 - (intOf vj).toNat)
            case atStart => exact ⟨1, rfl, Nat.le_refl _, by omega, Below.refl _ _⟩
            case round =>
              obtain ⟨j, rfl, hj1, hj2, y⟩ := hrel
              rename World => w18
              have Q18 : Hid (PIn w18 b15 q (.slice ka3 (vn1 + 1) kc3) (.slice va3 (vn1 + 1) vc3) (.slice da3 dn3 dc3)) := Qw15.out.below y
              have P18 : Hid (PIn w18 b7 (leafM ks) (.slice ka1 vn1 kc1) (.slice va1 vn1 vc1) (.slice da1 dn1 dc1)) := Pw15.out.below y
              have Y18 : Hid (Below w.heap.size w w18) := ext_trans Yw15.out y
              have YQ : Hid (Below w15.heap.size w15 w18) := y
              clear y
              by_cases hjn : j < vn1 + 1
              · have hjk : j < (insB k ks).length := by rw [LI.out]; exact hjn
                have r3 := Q18.out.P.keys.at.2.2.2
                rw [QK.out] at r3
                obtain ⟨kad, hkad⟩ := r3.ad (by rw [sv_length]; omega)
                subst hkad
                have y1 : w18.cell? (kad.add j) = some (.string (insB k ks)[j]) := r3.str (ss := insB k ks) rfl hjk
                have y2 : w18.cell? (kad.add (j - 1)) = some (.string (insB k ks)[j - 1]) := r3.str (ss := insB k ks) rfl (by omega)
                clear r3
                have hlt : Op.bytesLess (insB k ks)[j - 1].toList (insB k ks)[j].toList = true := QR.out.le (by omega) hjk (by omega)
                generalize (insB k ks)[j] = xb at *
                generalize (insB k ks)[j - 1] = xa at *
                have z1 := Q18.out.B.cells.2.1
                obtain ⟨i, hij⟩ : ∃ i, j - 1 = i := ⟨_, rfl⟩
                rw [hij] at y2
                have HIJ : Hid (j - 1 = i) := hij
                have hwr : IntKind.i64.wrap ((j : Int) - 1) = (i : Int) := by rw [IntKind.wrap_i64]; omega
                have hi1 : (i : Int) < ((vn1 + 1 : Nat) : Int) := by omega
                have hi2 : (j : Int) < ((vn1 + 1 : Nat) : Int) := by omega
                have hi0 : i < vn1 + 1 := by omega
                clear hij
                go_wp2
                go_quiet (fail)
                go_wp2
                go_roundw
                case rel => exact ⟨j + 1, by go_num, by omega, by omega, ⟨YQ.out.os, YQ.out.tape, YQ.out.output, YQ.out.size, YQ.out.block⟩⟩
                case measure => simp [intOf]; omega
              · clear hj1 hj2 YQ
                have x1 := Q18.out.B.cells.2.1
                have HOV : Hid (∀ W, PgAt W (leafM ks) (.slice ka1 vn1 kc1) (.slice va1 vn1 vc1) (.slice da1 dn1 dc1) → Calls Try.prog 30 #[pgv (leafM ks) (.slice ka1 vn1 kc1) (.slice va1 vn1 vc1) (.slice da1 dn1 dc1)] W fun e w' => e = .returned (.bool (decide (6 < (vn1 : Int)))) ∧ Below W.heap.size W w') := fun W h => overL_any ks _ _ _ _ _ _ _ _ vn1 W h
                have HUN : Hid (∀ W, PgAt W (leafM ks) (.slice ka1 vn1 kc1) (.slice va1 vn1 vc1) (.slice da1 dn1 dc1) → Calls Try.prog 31 #[pgv (leafM ks) (.slice ka1 vn1 kc1) (.slice va1 vn1 vc1) (.slice da1 dn1 dc1)] W fun e w' => e = .returned (.bool (decide ((vn1 : Int) < 3))) ∧ Below W.heap.size W w') := fun W h => underL_any ks _ _ _ _ _ _ _ _ vn1 W h
                unfold pgv at HOV HUN
                obtain ⟨z0, z1, z2, z3, z4, z5, z6, z7⟩ := P18.out.B.cells
                go_wp2_with fail
                refine (HOV.out _ P18.out.P).mono ?_
                rintro e w19 ⟨rfl, y⟩
                clear z0 z1 z2 z3 z4 z5 z6 z7
                have P19 : Hid (PIn w19 b7 (leafM ks) (.slice ka1 vn1 kc1) (.slice va1 vn1 vc1) (.slice da1 dn1 dc1)) := P18.out.below y
                have Y19 : Hid (Below w.heap.size w w19) := ext_trans Y18.out y
                clear y
                obtain ⟨z0, z1, z2, z3, z4, z5, z6, z7⟩ := P19.out.B.cells
                go_wp2_with fail
                refine (HUN.out _ P19.out.P).mono ?_
                rintro e w20 ⟨rfl, y⟩
                clear z0 z1 z2 z3 z4 z5 z6 z7
                have Y20 : Hid (Below w.heap.size w w20) := ext_trans Y19.out y
                clear y
                go_wp2
                go_ret
                exact ⟨ret_bool (by simp), Y20.out⟩

theorem walk_NodeLeaves (pa : Option Addr) (n c : Nat) (l : List ByteArray) (k v : ByteArray) (w : World) (hps : IsStrs w pa n c l) (hsz : ∀ k ∈ l, k.size ≤ 140737488351232) (_wk : k.size ≤ maxLen) (_wv : v.size ≤ maxLen) :
    Calls Try.prog 9 #[.slice pa n c, .string k, .string v] w fun e w' => e = .returned (.bool true) ∧ Below w.heap.size w w' := by
  cases hh : hasB k (ksOf l) with
  | true => exact leaves_true pa n c l k v w hps hsz hh
  | false => exact leaves_false pa n c l k v w hps hsz hh
end Go.Proofs.Ytmjekecalghhdaa

/- NodeHangs: the walk of the law's Go text. -/
import Derived.Test.YtmjekecalghhdaaSame7
import Derived.Test.YtmjekecalghhdaaNd12
set_option linter.unusedSimpArgs false
set_option linter.unusedVariables false
namespace Go.Proofs.Ytmjekecalghhdaa
open Go.ChangeShapes Go.WideShapes Go.ChangeAt Go.RowKit

theorem and_leH (a : Int) (m : Nat) (hm : m < 9223372036854775808) : ∃ i : Nat, i ≤ m ∧ bits .and .i64 a (m : Int) = (i : Int) := by
  refine ⟨(BitVec.ofInt 64 a &&& BitVec.ofInt 64 (m : Int)).toNat, ?_, ?_⟩
  · rw [BitVec.toNat_and]
    refine Nat.le_trans Nat.and_le_right ?_
    rw [BitVec.ofInt_natCast, BitVec.toNat_ofNat]
    exact Nat.mod_le _ _
  · have hle : (BitVec.ofInt 64 a &&& BitVec.ofInt 64 (m : Int)).toNat ≤ m := by
      rw [BitVec.toNat_and]
      refine Nat.le_trans Nat.and_le_right ?_
      rw [BitVec.ofInt_natCast, BitVec.toNat_ofNat]
      exact Nat.mod_le _ _
    show IntKind.i64.wrap ((BitVec.ofInt 64 a &&& BitVec.ofInt 64 (m : Int)).toNat : Int) = _
    rw [IntKind.wrap_i64]
    omega

/-- An assignment. -/
theorem exec_assign {ρ : Operand → Value} {o : Oper} {w : World} {x : Operand} (ho : o.op = .assign x) : (execOp ρ o).run Try.prog w = .ok (.value (ρ x)) w := by
  unfold execOp
  rw [ho]
  rfl
structure HangF (ks : List ByteArray) (kn i : Nat) (k : ByteArray) (p q t u : Pg) : Prop where
  pk : p.keys.length = kn
  pd : p.kids.length = kn + 1
  pin : innP p = true
  pv : p.vals.length = 0
  qk : q.keys.length = kn + 1
  qd : q.kids.length = kn + 2
  qv : q.vals.length = 0
  qin : innP q = true
  qki : q.keys[i]? = some k
  qd1 : q.kids[i + 1]? = some 99
  qdi : q.kids[i]? = some ((5 : Int) + (i : Int))
  pdi : ∀ j, j < kn + 1 → p.kids[j]? = some ((5 : Int) + (j : Int))
  tk : t.keys.length = kn
  tki : t.keys[i]? = some k
  t1 : t.keys.take i = p.keys.take i
  t2 : t.keys.drop (i + 1) = p.keys.drop (i + 1)
  uk : u.keys.length = kn - 1
  ud : u.kids.length = kn
  u1 : u.keys.take i = p.keys.take i
  u2 : u.keys.drop i = p.keys.drop (i + 1)
  udi : ∀ j, j < kn → u.kids[j]? = some (if i < j then (5 : Int) + ((j + 1 : Nat) : Int) else (5 : Int) + (j : Int))
  back : unhangP q i = p
theorem hangF (ks : List ByteArray) (i : Nat) (k : ByteArray) (hi : i < ks.length) :
    HangF ks ks.length i k (innM ks 5 (ks.length + 1)) (hangP (innM ks 5 (ks.length + 1)) i k 99) (turnP (innM ks 5 (ks.length + 1)) i k) (unhangP (innM ks 5 (ks.length + 1)) i) := by
  have hkl : (kidsM 5 (ks.length + 1)).length = ks.length + 1 := kidsM_length _ _
  have hkg : ∀ j, j < ks.length + 1 → (kidsM 5 (ks.length + 1))[j]? = some ((5 : Int) + (j : Int)) := fun j hj => by unfold kidsM; rw [List.getElem?_map, List.getElem?_range hj]; rfl
  refine ⟨rfl, hkl, by simp [innP, innM, kidsM_length], rfl, ?_, ?_, rfl, ?_, ?_, ?_, ?_, hkg, ?_, ?_, ?_, ?_, ?_, ?_, ?_, ?_, ?_, ?_⟩
  · exact ins_length ks (Nat.le_of_lt hi) k
  · show ((kidsM 5 (ks.length + 1)).take (i + 1) ++ 99 :: (kidsM 5 (ks.length + 1)).drop (i + 1)).length = _
    rw [ins_length _ (by omega), hkl]
  · have h1 : ((kidsM 5 (ks.length + 1)).take (i + 1) ++ 99 :: (kidsM 5 (ks.length + 1)).drop (i + 1)).length = (ks.take i ++ k :: ks.drop i).length + 1 := by rw [ins_length _ (by rw [hkl]; omega), ins_length _ (by omega), hkl]
    show (decide True && decide _) = true
    exact Bool.and_eq_true_iff.2 ⟨rfl, decide_eq_true h1⟩
  · show (ks.take i ++ k :: ks.drop i)[i]? = _
    rw [ins_get _ (by omega), if_neg (Nat.lt_irrefl _), if_pos rfl]
  · show ((kidsM 5 (ks.length + 1)).take (i + 1) ++ 99 :: (kidsM 5 (ks.length + 1)).drop (i + 1))[i + 1]? = _
    rw [ins_get _ (by omega), if_neg (Nat.lt_irrefl _), if_pos rfl]
  · show ((kidsM 5 (ks.length + 1)).take (i + 1) ++ 99 :: (kidsM 5 (ks.length + 1)).drop (i + 1))[i]? = _
    rw [ins_get _ (by omega), if_pos (by omega)]
    exact hkg i (by omega)
  · show (ks.set i k).length = _
    simp
  · show (ks.set i k)[i]? = _
    rw [List.getElem?_set_self hi]
  · show (ks.set i k).take i = ks.take i
    rw [List.take_set_of_le (Nat.le_refl _)]
  · show (ks.set i k).drop (i + 1) = ks.drop (i + 1)
    rw [List.drop_set_of_lt (by omega)]
  · show (ks.eraseIdx i).length = _
    rw [List.length_eraseIdx_of_lt hi]
  · show ((kidsM 5 (ks.length + 1)).eraseIdx (i + 1)).length = _
    rw [List.length_eraseIdx_of_lt (by omega), hkl]
    rfl
  · show (ks.eraseIdx i).take i = ks.take i
    rw [List.eraseIdx_eq_take_drop_succ, List.take_append_of_le_length (by simp; omega), List.take_of_length_le (by simp; omega)]
  · show (ks.eraseIdx i).drop i = ks.drop (i + 1)
    rw [List.eraseIdx_eq_take_drop_succ]
    have : (ks.take i).length = i := by simp; omega
    rw [List.drop_append_of_le_length (by omega), List.drop_of_length_le (by omega), List.nil_append]
  · intro j hj
    show ((kidsM 5 (ks.length + 1)).eraseIdx (i + 1))[j]? = _
    rw [List.getElem?_eraseIdx]
    by_cases hij : i < j
    · rw [if_neg (by omega), if_pos hij]
      exact hkg (j + 1) (by omega)
    · rw [if_pos (by omega), if_neg hij]
      exact hkg j (by omega)
  · unfold unhangP hangP
    simp only [innM]
    rw [ins_erase _ (Nat.le_of_lt hi), ins_erase _ (by rw [hkl]; omega)]
set_option maxRecDepth 100000 in
set_option maxHeartbeats 6000000 in
theorem walk_NodeHangs (pa : Option Addr) (n c : Nat) (l : List ByteArray) (at_ : Int) (k : ByteArray) (w : World) (hps : IsStrs w pa n c l) (hsz : ∀ k ∈ l, k.size ≤ 140737488351232) (_hw1 : (Lit.int .i64 at_).wf = true) (_wk : k.size ≤ maxLen) :
    Calls Try.prog 12 #[.slice pa n c, .int .i64 at_, .string k] w fun e w' => e = .returned (.bool true) ∧ Below w.heap.size w w' := by
  have HR : Hid (Rd w (.slice pa n c) (sv l)) := isStrs_rd hps
  have HLN : Hid (l.length = n) := hps.1
  have hnm : n ≤ 9223372036854775807 := Nat.le_trans hps.2.1 hps.2.2.1
  have HZ : Hid (∀ k ∈ l, k.size ≤ 140737488351232) := hsz
  clear hps hsz _hw1 _wk
  obtain ⟨m, hm, hia0⟩ := and_leH at_ 65535 (by omega)
  have hia : bits .and .i64 at_ 65535 = (m : Int) := hia0
  clear hia0
  go_enter Try.func12, Try.ntmps12
  go_wp2_with fail
  refine (head7_any _).mono ?_
  rintro e w1 ⟨rfl, y⟩
  have Y1 : Hid (Below w.heap.size w w1) := y
  clear y
  by_cases h20 : 20 < n
  · go_wp2_with fail
    go_ret
    exact ⟨ret_bool rfl, Y1.out⟩
  · by_cases hn0 : n = 0
    · subst hn0
      go_wp2_with fail
      go_ret
      exact ⟨ret_bool rfl, Y1.out⟩
    · have HIC : Hid (Calls Try.prog 32 #[.slice pa n c, .int .i64 5] w1 _) := inner_any _ l 5 w1 (HR.out.below Y1.out) (by have := HLN.out; omega) HZ.out (by omega)
      have hn1 : ((n : Int) == 0) = false := by simp; omega
      go_wp2_with fail
      refine HIC.out.mono ?_
      rintro e w2 ⟨kv, vv, dv, rfl, ho, y⟩
      have hpp := ho.at
      clear ho
      obtain ⟨kn, pk0, kc1, e1⟩ := hpp.keys.any
      obtain ⟨vn1, va1, vc1, e2⟩ := hpp.vals.any
      obtain ⟨dn1, pd0, dc1, e3⟩ := hpp.kids.any
      subst e1 e2 e3
      have hkn : kn = (ksOf l).length := (PIn.len hpp).1
      have hdn : kn + 1 = dn1 := by rw [(PIn.len hpp).2.2, hkn]; exact (kidsM_length _ _).symm
      subst hdn
      have hk0 : 0 < kn := by
        rw [hkn]
        cases hl : l with
        | nil => exfalso; apply hn0; rw [← HLN.out, hl]; rfl
        | cons x t => exact List.length_pos_of_mem ((ksOf_mem' (x :: t) x).2 List.mem_cons_self)
      obtain ⟨pk, hpk⟩ := hpp.keys.at.2.2.2.ad (by rw [sv_length]; show 0 < (ksOf l).length; omega)
      obtain ⟨pd, hpd⟩ := hpp.kids.at.2.2.2.ad (by simp [iv, innM, kidsM_length])
      subst hpk hpd
      have hk20 : kn ≤ 20 := by have h1 := ksOf_length l; have h2 := HLN.out; omega
      obtain ⟨i, hi, hik⟩ : ∃ i, m % kn = i ∧ i < kn := ⟨_, rfl, Nat.mod_lt _ hk0⟩
      have hrot : (m : Int).tmod (kn : Int) = (i : Int) := by rw [← hi]; rfl
      have HF0 := hangF (ksOf l) i k (by omega)
      rw [← hkn] at HF0 hpp ⊢
      have HKN : Hid ((ksOf l).length = kn) := hkn.symm
      have Y2 : Hid (Below w.heap.size w w2) := ext_trans Y1.out y
      clear y Y1 HZ HR HIC hkn hi
      generalize ksOf l = ks at *
      obtain ⟨p, hp⟩ : ∃ p, innM ks 5 (kn + 1) = p := ⟨_, rfl⟩
      rw [show ((5 : Nat) : Int) = 5 from rfl] at hpp ⊢
      rw [hp] at HF0 hpp ⊢
      clear hp
      obtain ⟨q, hq⟩ : ∃ q, hangP p i k 99 = q := ⟨_, rfl⟩
      obtain ⟨t, ht⟩ : ∃ t, turnP p i k = t := ⟨_, rfl⟩
      obtain ⟨u, hu⟩ : ∃ u, unhangP p i = u := ⟨_, rfl⟩
      rw [hq, ht, hu] at HF0
      have HQ : Hid (hangP p i k 99 = q) := hq
      have HT : Hid (turnP p i k = t) := ht
      have HU : Hid (unhangP p i = u) := hu
      have HF : Hid (HangF ks kn i k p q t u) := HF0
      have HL : Hid (p.keys.length ≤ 1000 ∧ p.vals.length ≤ 1000 ∧ p.kids.length ≤ 1000) := ⟨by rw [HF0.pk]; omega, by rw [HF0.pv]; omega, by rw [HF0.pd]; omega⟩
      clear hq ht hu HF0
      have Pw3 : Hid (PIn (w2.alloc (.cells #[.int .i64 p.kind, .slice (some pk) kn kc1, .slice va1 vn1 vc1, .slice (some pd) (kn + 1) dc1, .int .i64 p.root, .int .i64 p.next, .int .i64 p.size, .int .i64 p.idle] 25)) w2.heap.size p (.slice (some pk) kn kc1) (.slice va1 vn1 vc1) (.slice (some pd) (kn + 1) dc1)) := PIn.new hpp
      have Yw3 : Hid (Below w.heap.size w (w2.alloc (.cells #[.int .i64 p.kind, .slice (some pk) kn kc1, .slice va1 vn1 vc1, .slice (some pd) (kn + 1) dc1, .int .i64 p.root, .int .i64 p.next, .int .i64 p.size, .int .i64 p.idle] 25))) := Y2.out.alloc Y2.out.size _
      clear hpp  Y2
      try unfold pgv
      go_upto_region 6 with fail
      generalize (w2.alloc (.cells #[.int .i64 p.kind, .slice (some pk) kn kc1, .slice va1 vn1 vc1, .slice (some pd) (kn + 1) dc1, .int .i64 p.root, .int .i64 p.next, .int .i64 p.size, .int .i64 p.idle] 25)) = w3 at *
      obtain ⟨b7, hb⟩ : ∃ b, w2.heap.size = b := ⟨_, rfl⟩
      rw [hb] at Pw3 ⊢
      clear hb
      have HCL : Hid (Calls Try.prog 23 #[pgv p (.slice (some pk) kn kc1) (.slice va1 vn1 vc1) (.slice (some pd) (kn + 1) dc1)] w3 _) := pclone_any p _ _ _ w3 Pw3.out.P ⟨by have := HL.out; omega, by have := HL.out; omega, by have := HL.out; omega⟩
      unfold pgv at HCL
      obtain ⟨z0, z1, z2, z3, z4, z5, z6, z7⟩ := Pw3.out.B.cells
      go_wp2_with fail
      refine HCL.out.mono ?_
      rintro e w4 ⟨k2, v2, d2, rfl, ho, y⟩
      clear z0 z1 z2 z3 z4 z5 z6 z7
      have hpp := ho.at
      clear ho HCL
      obtain ⟨kn2, ka2, kc2, e1⟩ := hpp.keys.any
      obtain ⟨vn2, va2, vc2, e2⟩ := hpp.vals.any
      obtain ⟨dn2, da2, dc2, e3⟩ := hpp.kids.any
      subst e1 e2 e3
      have P4 : Hid (PIn w4 b7 p (.slice (some pk) kn kc1) (.slice va1 vn1 vc1) (.slice (some pd) (kn + 1) dc1)) := Pw3.out.below y
      have Y4 : Hid (Below w.heap.size w w4) := ext_trans Yw3.out y
      clear Pw3 Yw3 y
      have Sw5 : Hid (PIn (w4.alloc (.cells #[.int .i64 p.kind, .slice ka2 kn2 kc2, .slice va2 vn2 vc2, .slice da2 dn2 dc2, .int .i64 p.root, .int .i64 p.next, .int .i64 p.size, .int .i64 p.idle] 25)) w4.heap.size p (.slice ka2 kn2 kc2) (.slice va2 vn2 vc2) (.slice da2 dn2 dc2)) := PIn.new hpp
      have Pw5 : Hid (PIn (w4.alloc (.cells #[.int .i64 p.kind, .slice ka2 kn2 kc2, .slice va2 vn2 vc2, .slice da2 dn2 dc2, .int .i64 p.root, .int .i64 p.next, .int .i64 p.size, .int .i64 p.idle] 25)) b7 p (.slice (some pk) kn kc1) (.slice va1 vn1 vc1) (.slice (some pd) (kn + 1) dc1)) := (P4.out).below (below_alloc _)
      have Yw5 : Hid (Below w.heap.size w (w4.alloc (.cells #[.int .i64 p.kind, .slice ka2 kn2 kc2, .slice va2 vn2 vc2, .slice da2 dn2 dc2, .int .i64 p.root, .int .i64 p.next, .int .i64 p.size, .int .i64 p.idle] 25))) := Y4.out.alloc Y4.out.size _
      clear hpp P4 Y4
      try unfold pgv
      go_upto_region 7 with fail
      generalize (w4.alloc (.cells #[.int .i64 p.kind, .slice ka2 kn2 kc2, .slice va2 vn2 vc2, .slice da2 dn2 dc2, .int .i64 p.root, .int .i64 p.next, .int .i64 p.size, .int .i64 p.idle] 25)) = w5 at *
      obtain ⟨b8, hb⟩ : ∃ b, w4.heap.size = b := ⟨_, rfl⟩
      rw [hb] at Sw5 ⊢
      clear hb
      have HHA : Hid (∀ W, PgAt W p (.slice (some pk) kn kc1) (.slice va1 vn1 vc1) (.slice (some pd) (kn + 1) dc1) → Calls Try.prog 35 #[pgv p (.slice (some pk) kn kc1) (.slice va1 vn1 vc1) (.slice (some pd) (kn + 1) dc1), .int .i64 (i : Int), .string k, .int .i64 99] W fun e w' => ∃ k3 v3 d3, e = .returned (pgv q k3 v3 d3) ∧ PgAt w' q k3 v3 d3 ∧ Below W.heap.size W w') := fun W h => by have := hang_any p i k 99 _ _ _ W h HF.out.pin (by rw [HF.out.pk]; omega) HL.out; rw [HQ.out] at this; exact this
      have HTA : Hid (∀ W, PgAt W p (.slice (some pk) kn kc1) (.slice va1 vn1 vc1) (.slice (some pd) (kn + 1) dc1) → Calls Try.prog 36 #[pgv p (.slice (some pk) kn kc1) (.slice va1 vn1 vc1) (.slice (some pd) (kn + 1) dc1), .int .i64 (i : Int), .string k] W fun e w' => ∃ k3 v3 d3, e = .returned (pgv t k3 v3 d3) ∧ PgAt w' t k3 v3 d3 ∧ Below W.heap.size W w') := fun W h => by have := turn_any p i k _ _ _ W h HF.out.pin (by rw [HF.out.pk]; omega) HL.out; rw [HT.out] at this; exact this
      have HUA : Hid (∀ W, PgAt W p (.slice (some pk) kn kc1) (.slice va1 vn1 vc1) (.slice (some pd) (kn + 1) dc1) → Calls Try.prog 38 #[pgv p (.slice (some pk) kn kc1) (.slice va1 vn1 vc1) (.slice (some pd) (kn + 1) dc1), .int .i64 (i : Int)] W fun e w' => ∃ k3 v3 d3, e = .returned (pgv u k3 v3 d3) ∧ PgAt w' u k3 v3 d3 ∧ Below W.heap.size W w') := fun W h => by have := unhang_any p i _ _ _ W h HF.out.pin (by rw [HF.out.pk]; omega) HL.out; rw [HU.out] at this; exact this
      have HSM : Hid (∀ W, PgAt W p (.slice (some pk) kn kc1) (.slice va1 vn1 vc1) (.slice (some pd) (kn + 1) dc1) → PgAt W p (.slice ka2 kn2 kc2) (.slice va2 vn2 vc2) (.slice da2 dn2 dc2) → Calls Try.prog 22 #[pgv p (.slice (some pk) kn kc1) (.slice va1 vn1 vc1) (.slice (some pd) (kn + 1) dc1), pgv p (.slice ka2 kn2 kc2) (.slice va2 vn2 vc2) (.slice da2 dn2 dc2)] W fun e w' => e = .returned (.bool true) ∧ Below W.heap.size W w') := fun W h1 h2 => by have := psame_any p p _ _ _ _ _ _ W h1 h2; rw [(samePg_iff _ _).2 rfl] at this; exact this
      unfold pgv at HHA HTA HUA HSM
      obtain ⟨z0, z1, z2, z3, z4, z5, z6, z7⟩ := Pw5.out.B.cells
      go_wp2_with fail
      refine (HHA.out _ Pw5.out.P).mono ?_
      rintro e w6 ⟨k3, v3, d3, rfl, hpp, y⟩
      clear z0 z1 z2 z3 z4 z5 z6 z7
      obtain ⟨kn3, qk0, kc3, e1⟩ := hpp.keys.any
      obtain ⟨vn3, va3, vc3, e2⟩ := hpp.vals.any
      obtain ⟨dn3, qd0, dc3, e3⟩ := hpp.kids.any
      subst e1 e2 e3
      have h1 : kn + 1 = kn3 := by rw [(PIn.len hpp).1, HF.out.qk]
      have h2 : kn + 2 = dn3 := by rw [(PIn.len hpp).2.2, HF.out.qd]
      subst h1 h2
      obtain ⟨qk, hqk⟩ := hpp.keys.at.2.2.2.ad (by rw [sv_length, HF.out.qk]; omega)
      obtain ⟨qd, hqd⟩ := hpp.kids.at.2.2.2.ad (by simp [iv, HF.out.qd])
      subst hqk hqd
      have P6 : Hid (PIn w6 b7 p (.slice (some pk) kn kc1) (.slice va1 vn1 vc1) (.slice (some pd) (kn + 1) dc1)) := Pw5.out.below y
      have S6 : Hid (PIn w6 b8 p (.slice ka2 kn2 kc2) (.slice va2 vn2 vc2) (.slice da2 dn2 dc2)) := Sw5.out.below y
      have Y6 : Hid (Below w.heap.size w w6) := ext_trans Yw5.out y
      clear Pw5 Sw5 Yw5 y
      have Qw7 : Hid (PIn (w6.alloc (.cells #[.int .i64 q.kind, .slice (some qk) (kn + 1) kc3, .slice va3 vn3 vc3, .slice (some qd) (kn + 2) dc3, .int .i64 q.root, .int .i64 q.next, .int .i64 q.size, .int .i64 q.idle] 25)) w6.heap.size q (.slice (some qk) (kn + 1) kc3) (.slice va3 vn3 vc3) (.slice (some qd) (kn + 2) dc3)) := PIn.new hpp
      have Pw7 : Hid (PIn (w6.alloc (.cells #[.int .i64 q.kind, .slice (some qk) (kn + 1) kc3, .slice va3 vn3 vc3, .slice (some qd) (kn + 2) dc3, .int .i64 q.root, .int .i64 q.next, .int .i64 q.size, .int .i64 q.idle] 25)) b7 p (.slice (some pk) kn kc1) (.slice va1 vn1 vc1) (.slice (some pd) (kn + 1) dc1)) := (P6.out).below (below_alloc _)
      have Sw7 : Hid (PIn (w6.alloc (.cells #[.int .i64 q.kind, .slice (some qk) (kn + 1) kc3, .slice va3 vn3 vc3, .slice (some qd) (kn + 2) dc3, .int .i64 q.root, .int .i64 q.next, .int .i64 q.size, .int .i64 q.idle] 25)) b8 p (.slice ka2 kn2 kc2) (.slice va2 vn2 vc2) (.slice da2 dn2 dc2)) := (S6.out).below (below_alloc _)
      have Yw7 : Hid (Below w.heap.size w (w6.alloc (.cells #[.int .i64 q.kind, .slice (some qk) (kn + 1) kc3, .slice va3 vn3 vc3, .slice (some qd) (kn + 2) dc3, .int .i64 q.root, .int .i64 q.next, .int .i64 q.size, .int .i64 q.idle] 25))) := Y6.out.alloc Y6.out.size _
      clear hpp P6 S6 Y6
      try unfold pgv
      go_upto_region 9 with fail
      generalize (w6.alloc (.cells #[.int .i64 q.kind, .slice (some qk) (kn + 1) kc3, .slice va3 vn3 vc3, .slice (some qd) (kn + 2) dc3, .int .i64 q.root, .int .i64 q.next, .int .i64 q.size, .int .i64 q.idle] 25)) = w7 at *
      obtain ⟨b9, hb⟩ : ∃ b, w6.heap.size = b := ⟨_, rfl⟩
      rw [hb] at Qw7 ⊢
      clear hb
      have hi0 : (0 : Int) ≤ (i : Int) := by omega
      have hi1 : (i : Int) < (kn : Int) := by omega
      have hi2 : (i : Int) < (kn : Int) + 1 := by omega
      have hi3 : (i : Int) + 1 < (kn : Int) + 2 := by omega
      have hi4 : (i : Int) < (kn : Int) + 2 := by omega
      have hc1 : ((kn + 1 : Nat) : Int) = (kn : Int) + 1 := by omega
      have hc2 : ((kn + 2 : Nat) : Int) = (kn : Int) + 2 := by omega
      have hci : ((i + 1 : Nat) : Int) = (i : Int) + 1 := by omega
      refine wp_region_ext (by kernel_rfl) ?_
      have Pa0 : Hid (PIn w7.drew b7 p (.slice (some pk) kn kc1) (.slice va1 vn1 vc1) (.slice (some pd) (kn + 1) dc1)) := Pw7.out.below (Below.drew (Below.refl _ _))
      have Sa0 : Hid (PIn w7.drew b8 p (.slice ka2 kn2 kc2) (.slice va2 vn2 vc2) (.slice da2 dn2 dc2)) := Sw7.out.below (Below.drew (Below.refl _ _))
      have Qa0 : Hid (PIn w7.drew b9 q (.slice (some qk) (kn + 1) kc3) (.slice va3 vn3 vc3) (.slice (some qd) (kn + 2) dc3)) := Qw7.out.below (Below.drew (Below.refl _ _))
      have Ya0 : Hid (Below w.heap.size w w7.drew) := Below.drew Yw7.out
      clear Pw7 Sw7 Qw7 Yw7
      haveI nA := cls_ext w7.drew
      obtain ⟨z0, z1, z2, z3, z4, z5, z6, z7⟩ := Pa0.out.B.cells
      have p0 := cellX (W0 := w7.drew) z0
      have p1 := cellX (W0 := w7.drew) z1
      have p2 := cellX (W0 := w7.drew) z2
      have p3 := cellX (W0 := w7.drew) z3
      have p4 := cellX (W0 := w7.drew) z4
      have p5 := cellX (W0 := w7.drew) z5
      have p6 := cellX (W0 := w7.drew) z6
      have p7 := cellX (W0 := w7.drew) z7
      clear z0 z1 z2 z3 z4 z5 z6 z7
      obtain ⟨z0, z1, z2, z3, z4, z5, z6, z7⟩ := Sa0.out.B.cells
      have s0 := cellX (W0 := w7.drew) z0
      have s1 := cellX (W0 := w7.drew) z1
      have s2 := cellX (W0 := w7.drew) z2
      have s3 := cellX (W0 := w7.drew) z3
      have s4 := cellX (W0 := w7.drew) z4
      have s5 := cellX (W0 := w7.drew) z5
      have s6 := cellX (W0 := w7.drew) z6
      have s7 := cellX (W0 := w7.drew) z7
      clear z0 z1 z2 z3 z4 z5 z6 z7
      obtain ⟨z0, z1, z2, z3, z4, z5, z6, z7⟩ := Qa0.out.B.cells
      have q0 := cellX (W0 := w7.drew) z0
      have q1 := cellX (W0 := w7.drew) z1
      have q2 := cellX (W0 := w7.drew) z2
      have q3 := cellX (W0 := w7.drew) z3
      have q4 := cellX (W0 := w7.drew) z4
      have q5 := cellX (W0 := w7.drew) z5
      have q6 := cellX (W0 := w7.drew) z6
      have q7 := cellX (W0 := w7.drew) z7
      clear z0 z1 z2 z3 z4 z5 z6 z7
      have f1 := cellX (W0 := w7.drew) (cell_key Qa0.out.P HF.out.qki)
      have f2 := cellX (W0 := w7.drew) (show (w7.drew).cell? ⟨qd.block, qd.off + (i + 1), none⟩ = some _ from cell_kid Qa0.out.P HF.out.qd1)
      have f3 := cellX (W0 := w7.drew) (cell_kid Qa0.out.P HF.out.qdi)
      have f4 := cellX (W0 := w7.drew) (cell_kid Pa0.out.P (HF.out.pdi i (by omega)))
      refine wpAnyH_seg (by kernel_rfl) (fun _ _ _ h => h) [0, 1] 43 _ _ _ (Ext.refl _) (by kernel_rfl) ?_
      simp only [opsAt, List.getElem?_toArray, List.getElem?_cons_zero, List.getElem?_cons_succ, List.cons_append, List.nil_append]
      repeat (go_big_quiet_step (fail))
      refine wpQuiet_nil ?_
      clear nA p0 p1 p2 p3 p4 p5 p6 p7 s0 s1 s2 s3 s4 s5 s6 s7 q0 q1 q2 q3 q4 q5 q6 q7 f1 f2 f3 f4
      refine wpAnyH_callE (i := 2) (fuel := 42) 41 rfl (by kernel_rfl) rfl (Ext.refl _) (by kernel_rfl) (f := 22) (args := #[.agg #[.int .i64 p.kind, .slice (some pk) kn kc1, .slice va1 vn1 vc1, .slice (some pd) (kn + 1) dc1, .int .i64 p.root, .int .i64 p.next, .int .i64 p.size, .int .i64 p.idle], .agg #[.int .i64 p.kind, .slice ka2 kn2 kc2, .slice va2 vn2 vc2, .slice da2 dn2 dc2, .int .i64 p.root, .int .i64 p.next, .int .i64 p.size, .int .i64 p.idle]]) (by kernel_rfl) (HSM.out w7.drew Pa0.out.P Sa0.out.P) ?_
      rintro e wa1 ⟨rfl, y⟩
      refine ⟨_, rfl, y, ?_⟩
      have Pa1 : Hid (PIn wa1 b7 p (.slice (some pk) kn kc1) (.slice va1 vn1 vc1) (.slice (some pd) (kn + 1) dc1)) := Pa0.out.below y
      have Sa1 : Hid (PIn wa1 b8 p (.slice ka2 kn2 kc2) (.slice va2 vn2 vc2) (.slice da2 dn2 dc2)) := Sa0.out.below y
      have Qa1 : Hid (PIn wa1 b9 q (.slice (some qk) (kn + 1) kc3) (.slice va3 vn3 vc3) (.slice (some qd) (kn + 2) dc3)) := Qa0.out.below y
      have Ya1 : Hid (Below w.heap.size w wa1) := ext_trans Ya0.out y
      clear Pa0 Sa0 Qa0 Ya0 y
      simp only [Act.put, List.setIfInBounds_toArray, List.set_cons_succ, List.set_cons_zero]
      haveI nA := cls_ext wa1
      obtain ⟨z0, z1, z2, z3, z4, z5, z6, z7⟩ := Pa1.out.B.cells
      have p0 := cellX (W0 := wa1) z0
      have p1 := cellX (W0 := wa1) z1
      have p2 := cellX (W0 := wa1) z2
      have p3 := cellX (W0 := wa1) z3
      have p4 := cellX (W0 := wa1) z4
      have p5 := cellX (W0 := wa1) z5
      have p6 := cellX (W0 := wa1) z6
      have p7 := cellX (W0 := wa1) z7
      clear z0 z1 z2 z3 z4 z5 z6 z7
      obtain ⟨z0, z1, z2, z3, z4, z5, z6, z7⟩ := Sa1.out.B.cells
      have s0 := cellX (W0 := wa1) z0
      have s1 := cellX (W0 := wa1) z1
      have s2 := cellX (W0 := wa1) z2
      have s3 := cellX (W0 := wa1) z3
      have s4 := cellX (W0 := wa1) z4
      have s5 := cellX (W0 := wa1) z5
      have s6 := cellX (W0 := wa1) z6
      have s7 := cellX (W0 := wa1) z7
      clear z0 z1 z2 z3 z4 z5 z6 z7
      obtain ⟨z0, z1, z2, z3, z4, z5, z6, z7⟩ := Qa1.out.B.cells
      have q0 := cellX (W0 := wa1) z0
      have q1 := cellX (W0 := wa1) z1
      have q2 := cellX (W0 := wa1) z2
      have q3 := cellX (W0 := wa1) z3
      have q4 := cellX (W0 := wa1) z4
      have q5 := cellX (W0 := wa1) z5
      have q6 := cellX (W0 := wa1) z6
      have q7 := cellX (W0 := wa1) z7
      clear z0 z1 z2 z3 z4 z5 z6 z7
      have f1 := cellX (W0 := wa1) (cell_key Qa1.out.P HF.out.qki)
      have f2 := cellX (W0 := wa1) (show (wa1).cell? ⟨qd.block, qd.off + (i + 1), none⟩ = some _ from cell_kid Qa1.out.P HF.out.qd1)
      have f3 := cellX (W0 := wa1) (cell_kid Qa1.out.P HF.out.qdi)
      have f4 := cellX (W0 := wa1) (cell_kid Pa1.out.P (HF.out.pdi i (by omega)))
      refine wpAnyH_seg (by kernel_rfl) (fun _ _ _ h => h) [3, 4, 5, 6, 7, 8, 9, 10, 11, 12, 13, 14, 15, 16, 17, 18, 19, 20, 21, 22, 23, 24, 25, 26, 27, 28, 29, 30, 31, 32, 33, 34, 35, 36, 37, 38, 39, 40, 41, 42, 43, 44] 0 _ _ _ (Ext.refl _) (by kernel_rfl) ?_
      simp only [opsAt, List.getElem?_toArray, List.getElem?_cons_zero, List.getElem?_cons_succ, List.cons_append, List.nil_append]
      repeat (go_big_quiet_step (fail))
      refine wpQuiet_nil ?_
      clear nA p0 p1 p2 p3 p4 p5 p6 p7 s0 s1 s2 s3 s4 s5 s6 s7 q0 q1 q2 q3 q4 q5 q6 q7 f1 f2 f3 f4
      refine wpAnyH_done (by kernel_rfl) (NoPanic.normal ?_) 0
      obtain ⟨z0, z1, z2, z3, z4, z5, z6, z7⟩ := Pa1.out.B.cells
      go_wp2_with fail
      refine (HTA.out _ Pa1.out.P).mono ?_
      rintro e w11 ⟨k3, v3, d3, rfl, hpp, y⟩
      clear z0 z1 z2 z3 z4 z5 z6 z7
      obtain ⟨kn4, tk0, kc4, e1⟩ := hpp.keys.any
      obtain ⟨vn4, va4, vc4, e2⟩ := hpp.vals.any
      obtain ⟨dn4, da4, dc4, e3⟩ := hpp.kids.any
      subst e1 e2 e3
      have h1 : kn = kn4 := by rw [(PIn.len hpp).1, HF.out.tk]
      subst h1
      obtain ⟨tk, htk⟩ := hpp.keys.at.2.2.2.ad (by rw [sv_length, HF.out.tk]; omega)
      subst htk
      have P11 : Hid (PIn w11 b7 p (.slice (some pk) kn kc1) (.slice va1 vn1 vc1) (.slice (some pd) (kn + 1) dc1)) := Pa1.out.below y
      have S11 : Hid (PIn w11 b8 p (.slice ka2 kn2 kc2) (.slice va2 vn2 vc2) (.slice da2 dn2 dc2)) := Sa1.out.below y
      have Q11 : Hid (PIn w11 b9 q (.slice (some qk) (kn + 1) kc3) (.slice va3 vn3 vc3) (.slice (some qd) (kn + 2) dc3)) := Qa1.out.below y
      have Y11 : Hid (Below w.heap.size w w11) := ext_trans Ya1.out y
      clear Pa1 Sa1 Qa1 Ya1 y
      have Tw11b : Hid (PIn (w11.alloc (.cells #[.int .i64 t.kind, .slice (some tk) kn kc4, .slice va4 vn4 vc4, .slice da4 dn4 dc4, .int .i64 t.root, .int .i64 t.next, .int .i64 t.size, .int .i64 t.idle] 25)) w11.heap.size t (.slice (some tk) kn kc4) (.slice va4 vn4 vc4) (.slice da4 dn4 dc4)) := PIn.new hpp
      have Pw11b : Hid (PIn (w11.alloc (.cells #[.int .i64 t.kind, .slice (some tk) kn kc4, .slice va4 vn4 vc4, .slice da4 dn4 dc4, .int .i64 t.root, .int .i64 t.next, .int .i64 t.size, .int .i64 t.idle] 25)) b7 p (.slice (some pk) kn kc1) (.slice va1 vn1 vc1) (.slice (some pd) (kn + 1) dc1)) := (P11.out).below (below_alloc _)
      have Sw11b : Hid (PIn (w11.alloc (.cells #[.int .i64 t.kind, .slice (some tk) kn kc4, .slice va4 vn4 vc4, .slice da4 dn4 dc4, .int .i64 t.root, .int .i64 t.next, .int .i64 t.size, .int .i64 t.idle] 25)) b8 p (.slice ka2 kn2 kc2) (.slice va2 vn2 vc2) (.slice da2 dn2 dc2)) := (S11.out).below (below_alloc _)
      have Qw11b : Hid (PIn (w11.alloc (.cells #[.int .i64 t.kind, .slice (some tk) kn kc4, .slice va4 vn4 vc4, .slice da4 dn4 dc4, .int .i64 t.root, .int .i64 t.next, .int .i64 t.size, .int .i64 t.idle] 25)) b9 q (.slice (some qk) (kn + 1) kc3) (.slice va3 vn3 vc3) (.slice (some qd) (kn + 2) dc3)) := (Q11.out).below (below_alloc _)
      have Yw11b : Hid (Below w.heap.size w (w11.alloc (.cells #[.int .i64 t.kind, .slice (some tk) kn kc4, .slice va4 vn4 vc4, .slice da4 dn4 dc4, .int .i64 t.root, .int .i64 t.next, .int .i64 t.size, .int .i64 t.idle] 25))) := Y11.out.alloc Y11.out.size _
      clear hpp P11 S11 Q11 Y11
      try unfold pgv
      go_upto_region 12 with fail
      generalize (w11.alloc (.cells #[.int .i64 t.kind, .slice (some tk) kn kc4, .slice va4 vn4 vc4, .slice da4 dn4 dc4, .int .i64 t.root, .int .i64 t.next, .int .i64 t.size, .int .i64 t.idle] 25)) = w11b at *
      obtain ⟨b10, hb⟩ : ∃ b, w11.heap.size = b := ⟨_, rfl⟩
      rw [hb] at Tw11b ⊢
      clear hb
      have b1 : kn ≤ kc1 := by have := Pw11b.out.P.keys.at.2.1; rw [sv_length, HF.out.pk] at this; exact this
      have b4 : kn ≤ kc4 := by have := Tw11b.out.P.keys.at.2.1; rw [sv_length, HF.out.tk] at this; exact this
      refine wp_region_ext (by kernel_rfl) ?_
      have Pb0 : Hid (PIn w11b.drew b7 p (.slice (some pk) kn kc1) (.slice va1 vn1 vc1) (.slice (some pd) (kn + 1) dc1)) := Pw11b.out.below (Below.drew (Below.refl _ _))
      have Sb0 : Hid (PIn w11b.drew b8 p (.slice ka2 kn2 kc2) (.slice va2 vn2 vc2) (.slice da2 dn2 dc2)) := Sw11b.out.below (Below.drew (Below.refl _ _))
      have Qb0 : Hid (PIn w11b.drew b9 q (.slice (some qk) (kn + 1) kc3) (.slice va3 vn3 vc3) (.slice (some qd) (kn + 2) dc3)) := Qw11b.out.below (Below.drew (Below.refl _ _))
      have Tb0 : Hid (PIn w11b.drew b10 t (.slice (some tk) kn kc4) (.slice va4 vn4 vc4) (.slice da4 dn4 dc4)) := Tw11b.out.below (Below.drew (Below.refl _ _))
      have Yb0 : Hid (Below w.heap.size w w11b.drew) := Below.drew Yw11b.out
      clear Pw11b Sw11b Qw11b Tw11b Yw11b
      haveI nA := cls_ext w11b.drew
      obtain ⟨z0, z1, z2, z3, z4, z5, z6, z7⟩ := Pb0.out.B.cells
      have p0 := cellX (W0 := w11b.drew) z0
      have p1 := cellX (W0 := w11b.drew) z1
      have p2 := cellX (W0 := w11b.drew) z2
      have p3 := cellX (W0 := w11b.drew) z3
      have p4 := cellX (W0 := w11b.drew) z4
      have p5 := cellX (W0 := w11b.drew) z5
      have p6 := cellX (W0 := w11b.drew) z6
      have p7 := cellX (W0 := w11b.drew) z7
      clear z0 z1 z2 z3 z4 z5 z6 z7
      obtain ⟨z0, z1, z2, z3, z4, z5, z6, z7⟩ := Sb0.out.B.cells
      have s0 := cellX (W0 := w11b.drew) z0
      have s1 := cellX (W0 := w11b.drew) z1
      have s2 := cellX (W0 := w11b.drew) z2
      have s3 := cellX (W0 := w11b.drew) z3
      have s4 := cellX (W0 := w11b.drew) z4
      have s5 := cellX (W0 := w11b.drew) z5
      have s6 := cellX (W0 := w11b.drew) z6
      have s7 := cellX (W0 := w11b.drew) z7
      clear z0 z1 z2 z3 z4 z5 z6 z7
      obtain ⟨z0, z1, z2, z3, z4, z5, z6, z7⟩ := Tb0.out.B.cells
      have q0 := cellX (W0 := w11b.drew) z0
      have q1 := cellX (W0 := w11b.drew) z1
      have q2 := cellX (W0 := w11b.drew) z2
      have q3 := cellX (W0 := w11b.drew) z3
      have q4 := cellX (W0 := w11b.drew) z4
      have q5 := cellX (W0 := w11b.drew) z5
      have q6 := cellX (W0 := w11b.drew) z6
      have q7 := cellX (W0 := w11b.drew) z7
      clear z0 z1 z2 z3 z4 z5 z6 z7
      have f1 := cellX (W0 := w11b.drew) (cell_key Tb0.out.P HF.out.tki)
      refine wpAnyH_seg (by kernel_rfl) (fun _ _ _ h => h) [0, 1, 2, 3, 4, 5, 6, 7, 8, 9, 10, 11, 12, 13, 14, 15, 16, 17, 18, 19, 20, 21, 22, 23, 24] 23 _ _ _ (Ext.refl _) (by kernel_rfl) ?_
      simp only [opsAt, List.getElem?_toArray, List.getElem?_cons_zero, List.getElem?_cons_succ, List.cons_append, List.nil_append]
      repeat (go_big_quiet_step (fail))
      refine wpQuiet_nil ?_
      clear nA p0 p1 p2 p3 p4 p5 p6 p7 s0 s1 s2 s3 s4 s5 s6 s7 q0 q1 q2 q3 q4 q5 q6 q7 f1
      refine wpAnyH_callE (i := 25) (fuel := 22) 113 rfl (by kernel_rfl) rfl (Ext.refl _) (by kernel_rfl) (f := 37) (args := #[.slice (some tk) i kc4, .slice (some pk) i kc1]) (by kernel_rfl) (same7_true _ _ _ _ w11b.drew (by have := Rd.take Tb0.out.P.keys (k := i) (by omega); rw [sv_take]; exact this) (by have := Rd.take Pb0.out.P.keys (k := i) (by omega); rw [sv_take]; exact this) HF.out.t1) ?_
      rintro e wb1 ⟨rfl, y⟩
      refine ⟨_, rfl, y, ?_⟩
      have Pb1 : Hid (PIn wb1 b7 p (.slice (some pk) kn kc1) (.slice va1 vn1 vc1) (.slice (some pd) (kn + 1) dc1)) := Pb0.out.below y
      have Sb1 : Hid (PIn wb1 b8 p (.slice ka2 kn2 kc2) (.slice va2 vn2 vc2) (.slice da2 dn2 dc2)) := Sb0.out.below y
      have Qb1 : Hid (PIn wb1 b9 q (.slice (some qk) (kn + 1) kc3) (.slice va3 vn3 vc3) (.slice (some qd) (kn + 2) dc3)) := Qb0.out.below y
      have Tb1 : Hid (PIn wb1 b10 t (.slice (some tk) kn kc4) (.slice va4 vn4 vc4) (.slice da4 dn4 dc4)) := Tb0.out.below y
      have Yb1 : Hid (Below w.heap.size w wb1) := ext_trans Yb0.out y
      clear Pb0 Sb0 Qb0 Tb0 Yb0 y
      simp only [Act.put, List.setIfInBounds_toArray, List.set_cons_succ, List.set_cons_zero]
      haveI nA := cls_ext wb1
      obtain ⟨z0, z1, z2, z3, z4, z5, z6, z7⟩ := Pb1.out.B.cells
      have p0 := cellX (W0 := wb1) z0
      have p1 := cellX (W0 := wb1) z1
      have p2 := cellX (W0 := wb1) z2
      have p3 := cellX (W0 := wb1) z3
      have p4 := cellX (W0 := wb1) z4
      have p5 := cellX (W0 := wb1) z5
      have p6 := cellX (W0 := wb1) z6
      have p7 := cellX (W0 := wb1) z7
      clear z0 z1 z2 z3 z4 z5 z6 z7
      obtain ⟨z0, z1, z2, z3, z4, z5, z6, z7⟩ := Sb1.out.B.cells
      have s0 := cellX (W0 := wb1) z0
      have s1 := cellX (W0 := wb1) z1
      have s2 := cellX (W0 := wb1) z2
      have s3 := cellX (W0 := wb1) z3
      have s4 := cellX (W0 := wb1) z4
      have s5 := cellX (W0 := wb1) z5
      have s6 := cellX (W0 := wb1) z6
      have s7 := cellX (W0 := wb1) z7
      clear z0 z1 z2 z3 z4 z5 z6 z7
      obtain ⟨z0, z1, z2, z3, z4, z5, z6, z7⟩ := Tb1.out.B.cells
      have q0 := cellX (W0 := wb1) z0
      have q1 := cellX (W0 := wb1) z1
      have q2 := cellX (W0 := wb1) z2
      have q3 := cellX (W0 := wb1) z3
      have q4 := cellX (W0 := wb1) z4
      have q5 := cellX (W0 := wb1) z5
      have q6 := cellX (W0 := wb1) z6
      have q7 := cellX (W0 := wb1) z7
      clear z0 z1 z2 z3 z4 z5 z6 z7
      have f1 := cellX (W0 := wb1) (cell_key Tb1.out.P HF.out.tki)
      refine wpAnyH_seg (by kernel_rfl) (fun _ _ _ h => h) [26, 27, 28, 29, 30, 31, 32, 33, 34, 35, 36, 37, 38] 9 _ _ _ (Ext.refl _) (by kernel_rfl) ?_
      simp only [opsAt, List.getElem?_toArray, List.getElem?_cons_zero, List.getElem?_cons_succ, List.cons_append, List.nil_append]
      repeat (go_big_quiet_step (fail))
      refine wpQuiet_nil ?_
      clear nA p0 p1 p2 p3 p4 p5 p6 p7 s0 s1 s2 s3 s4 s5 s6 s7 q0 q1 q2 q3 q4 q5 q6 q7 f1
      refine wpAnyH_callE (i := 39) (fuel := 8) 127 rfl (by kernel_rfl) rfl (Ext.refl _) (by kernel_rfl) (f := 37) (args := #[.slice (if kc4 = i + 1 then some tk else some ⟨tk.block, tk.off + (i + 1), none⟩) (kn - (i + 1)) (kc4 - (i + 1)), .slice (if kc1 = i + 1 then some pk else some ⟨pk.block, pk.off + (i + 1), none⟩) (kn - (i + 1)) (kc1 - (i + 1))]) (by kernel_rfl) (same7_true _ _ _ _ wb1 (by have := Rd.dropS Tb1.out.P.keys (k := i) (by omega); rw [sv_drop]; exact this) (by have := Rd.dropS Pb1.out.P.keys (k := i) (by omega); rw [sv_drop]; exact this) HF.out.t2) ?_
      rintro e wb2 ⟨rfl, y⟩
      refine ⟨_, rfl, y, ?_⟩
      have Pb2 : Hid (PIn wb2 b7 p (.slice (some pk) kn kc1) (.slice va1 vn1 vc1) (.slice (some pd) (kn + 1) dc1)) := Pb1.out.below y
      have Sb2 : Hid (PIn wb2 b8 p (.slice ka2 kn2 kc2) (.slice va2 vn2 vc2) (.slice da2 dn2 dc2)) := Sb1.out.below y
      have Qb2 : Hid (PIn wb2 b9 q (.slice (some qk) (kn + 1) kc3) (.slice va3 vn3 vc3) (.slice (some qd) (kn + 2) dc3)) := Qb1.out.below y
      have Tb2 : Hid (PIn wb2 b10 t (.slice (some tk) kn kc4) (.slice va4 vn4 vc4) (.slice da4 dn4 dc4)) := Tb1.out.below y
      have Yb2 : Hid (Below w.heap.size w wb2) := ext_trans Yb1.out y
      clear Pb1 Sb1 Qb1 Tb1 Yb1 y
      simp only [Act.put, List.setIfInBounds_toArray, List.set_cons_succ, List.set_cons_zero]
      haveI nA := cls_ext wb2
      obtain ⟨z0, z1, z2, z3, z4, z5, z6, z7⟩ := Pb2.out.B.cells
      have p0 := cellX (W0 := wb2) z0
      have p1 := cellX (W0 := wb2) z1
      have p2 := cellX (W0 := wb2) z2
      have p3 := cellX (W0 := wb2) z3
      have p4 := cellX (W0 := wb2) z4
      have p5 := cellX (W0 := wb2) z5
      have p6 := cellX (W0 := wb2) z6
      have p7 := cellX (W0 := wb2) z7
      clear z0 z1 z2 z3 z4 z5 z6 z7
      obtain ⟨z0, z1, z2, z3, z4, z5, z6, z7⟩ := Sb2.out.B.cells
      have s0 := cellX (W0 := wb2) z0
      have s1 := cellX (W0 := wb2) z1
      have s2 := cellX (W0 := wb2) z2
      have s3 := cellX (W0 := wb2) z3
      have s4 := cellX (W0 := wb2) z4
      have s5 := cellX (W0 := wb2) z5
      have s6 := cellX (W0 := wb2) z6
      have s7 := cellX (W0 := wb2) z7
      clear z0 z1 z2 z3 z4 z5 z6 z7
      obtain ⟨z0, z1, z2, z3, z4, z5, z6, z7⟩ := Tb2.out.B.cells
      have q0 := cellX (W0 := wb2) z0
      have q1 := cellX (W0 := wb2) z1
      have q2 := cellX (W0 := wb2) z2
      have q3 := cellX (W0 := wb2) z3
      have q4 := cellX (W0 := wb2) z4
      have q5 := cellX (W0 := wb2) z5
      have q6 := cellX (W0 := wb2) z6
      have q7 := cellX (W0 := wb2) z7
      clear z0 z1 z2 z3 z4 z5 z6 z7
      have f1 := cellX (W0 := wb2) (cell_key Tb2.out.P HF.out.tki)
      refine wpAnyH_seg (by kernel_rfl) (fun _ _ _ h => h) [40, 41, 42, 43, 44] 3 _ _ _ (Ext.refl _) (by kernel_rfl) ?_
      simp only [opsAt, List.getElem?_toArray, List.getElem?_cons_zero, List.getElem?_cons_succ, List.cons_append, List.nil_append]
      repeat (go_big_quiet_step (fail))
      refine wpQuiet_nil ?_
      clear nA p0 p1 p2 p3 p4 p5 p6 p7 s0 s1 s2 s3 s4 s5 s6 s7 q0 q1 q2 q3 q4 q5 q6 q7 f1
      refine wpAnyH_callE (i := 45) (fuel := 2) 133 rfl (by kernel_rfl) rfl (Ext.refl _) (by kernel_rfl) (f := 22) (args := #[.agg #[.int .i64 p.kind, .slice (some pk) kn kc1, .slice va1 vn1 vc1, .slice (some pd) (kn + 1) dc1, .int .i64 p.root, .int .i64 p.next, .int .i64 p.size, .int .i64 p.idle], .agg #[.int .i64 p.kind, .slice ka2 kn2 kc2, .slice va2 vn2 vc2, .slice da2 dn2 dc2, .int .i64 p.root, .int .i64 p.next, .int .i64 p.size, .int .i64 p.idle]]) (by kernel_rfl) (HSM.out wb2 Pb2.out.P Sb2.out.P) ?_
      rintro e wb3 ⟨rfl, y⟩
      refine ⟨_, rfl, y, ?_⟩
      have Pb3 : Hid (PIn wb3 b7 p (.slice (some pk) kn kc1) (.slice va1 vn1 vc1) (.slice (some pd) (kn + 1) dc1)) := Pb2.out.below y
      have Sb3 : Hid (PIn wb3 b8 p (.slice ka2 kn2 kc2) (.slice va2 vn2 vc2) (.slice da2 dn2 dc2)) := Sb2.out.below y
      have Qb3 : Hid (PIn wb3 b9 q (.slice (some qk) (kn + 1) kc3) (.slice va3 vn3 vc3) (.slice (some qd) (kn + 2) dc3)) := Qb2.out.below y
      have Tb3 : Hid (PIn wb3 b10 t (.slice (some tk) kn kc4) (.slice va4 vn4 vc4) (.slice da4 dn4 dc4)) := Tb2.out.below y
      have Yb3 : Hid (Below w.heap.size w wb3) := ext_trans Yb2.out y
      clear Pb2 Sb2 Qb2 Tb2 Yb2 y
      simp only [Act.put, List.setIfInBounds_toArray, List.set_cons_succ, List.set_cons_zero]
      haveI nA := cls_ext wb3
      obtain ⟨z0, z1, z2, z3, z4, z5, z6, z7⟩ := Pb3.out.B.cells
      have p0 := cellX (W0 := wb3) z0
      have p1 := cellX (W0 := wb3) z1
      have p2 := cellX (W0 := wb3) z2
      have p3 := cellX (W0 := wb3) z3
      have p4 := cellX (W0 := wb3) z4
      have p5 := cellX (W0 := wb3) z5
      have p6 := cellX (W0 := wb3) z6
      have p7 := cellX (W0 := wb3) z7
      clear z0 z1 z2 z3 z4 z5 z6 z7
      obtain ⟨z0, z1, z2, z3, z4, z5, z6, z7⟩ := Sb3.out.B.cells
      have s0 := cellX (W0 := wb3) z0
      have s1 := cellX (W0 := wb3) z1
      have s2 := cellX (W0 := wb3) z2
      have s3 := cellX (W0 := wb3) z3
      have s4 := cellX (W0 := wb3) z4
      have s5 := cellX (W0 := wb3) z5
      have s6 := cellX (W0 := wb3) z6
      have s7 := cellX (W0 := wb3) z7
      clear z0 z1 z2 z3 z4 z5 z6 z7
      obtain ⟨z0, z1, z2, z3, z4, z5, z6, z7⟩ := Tb3.out.B.cells
      have q0 := cellX (W0 := wb3) z0
      have q1 := cellX (W0 := wb3) z1
      have q2 := cellX (W0 := wb3) z2
      have q3 := cellX (W0 := wb3) z3
      have q4 := cellX (W0 := wb3) z4
      have q5 := cellX (W0 := wb3) z5
      have q6 := cellX (W0 := wb3) z6
      have q7 := cellX (W0 := wb3) z7
      clear z0 z1 z2 z3 z4 z5 z6 z7
      have f1 := cellX (W0 := wb3) (cell_key Tb3.out.P HF.out.tki)
      refine wpAnyH_seg (by kernel_rfl) (fun _ _ _ h => h) [46, 47] 0 _ _ _ (Ext.refl _) (by kernel_rfl) ?_
      simp only [opsAt, List.getElem?_toArray, List.getElem?_cons_zero, List.getElem?_cons_succ, List.cons_append, List.nil_append]
      repeat (go_big_quiet_step (fail))
      refine wpQuiet_nil ?_
      clear nA p0 p1 p2 p3 p4 p5 p6 p7 s0 s1 s2 s3 s4 s5 s6 s7 q0 q1 q2 q3 q4 q5 q6 q7 f1
      refine wpAnyH_done (by kernel_rfl) (NoPanic.normal ?_) 0
      generalize (if kc4 = i + 1 then (some tk : Option Addr) else some ⟨tk.block, tk.off + (i + 1), none⟩) = ztk
      generalize (if kc1 = i + 1 then (some pk : Option Addr) else some ⟨pk.block, pk.off + (i + 1), none⟩) = zpk
      obtain ⟨z0, z1, z2, z3, z4, z5, z6, z7⟩ := Pb3.out.B.cells
      go_wp2_with fail
      refine (HUA.out _ Pb3.out.P).mono ?_
      rintro e w13 ⟨k3, v3, d3, rfl, hpp, y⟩
      clear z0 z1 z2 z3 z4 z5 z6 z7
      obtain ⟨km, uk, kc5, e1⟩ := hpp.keys.any
      obtain ⟨vn5, va5, vc5, e2⟩ := hpp.vals.any
      obtain ⟨dn5, ud0, dc5, e3⟩ := hpp.kids.any
      subst e1 e2 e3
      have HKM : Hid (km + 1 = kn) := by show _ = _; rw [(PIn.len hpp).1, HF.out.uk]; omega
      have h2 : kn = dn5 := by rw [(PIn.len hpp).2.2, HF.out.ud]
      subst h2
      obtain ⟨ud, hud⟩ := hpp.kids.at.2.2.2.ad (by simp [iv, HF.out.ud]; omega)
      subst hud
      have P13 : Hid (PIn w13 b7 p (.slice (some pk) kn kc1) (.slice va1 vn1 vc1) (.slice (some pd) (kn + 1) dc1)) := Pb3.out.below y
      have S13 : Hid (PIn w13 b8 p (.slice ka2 kn2 kc2) (.slice va2 vn2 vc2) (.slice da2 dn2 dc2)) := Sb3.out.below y
      have Q13 : Hid (PIn w13 b9 q (.slice (some qk) (kn + 1) kc3) (.slice va3 vn3 vc3) (.slice (some qd) (kn + 2) dc3)) := Qb3.out.below y
      have Y13 : Hid (Below w.heap.size w w13) := ext_trans Yb3.out y
      clear Pb3 Sb3 Qb3 Tb3 Yb3 y
      have Uw13b : Hid (PIn (w13.alloc (.cells #[.int .i64 u.kind, .slice uk km kc5, .slice va5 vn5 vc5, .slice (some ud) kn dc5, .int .i64 u.root, .int .i64 u.next, .int .i64 u.size, .int .i64 u.idle] 25)) w13.heap.size u (.slice uk km kc5) (.slice va5 vn5 vc5) (.slice (some ud) kn dc5)) := PIn.new hpp
      have Pw13b : Hid (PIn (w13.alloc (.cells #[.int .i64 u.kind, .slice uk km kc5, .slice va5 vn5 vc5, .slice (some ud) kn dc5, .int .i64 u.root, .int .i64 u.next, .int .i64 u.size, .int .i64 u.idle] 25)) b7 p (.slice (some pk) kn kc1) (.slice va1 vn1 vc1) (.slice (some pd) (kn + 1) dc1)) := (P13.out).below (below_alloc _)
      have Sw13b : Hid (PIn (w13.alloc (.cells #[.int .i64 u.kind, .slice uk km kc5, .slice va5 vn5 vc5, .slice (some ud) kn dc5, .int .i64 u.root, .int .i64 u.next, .int .i64 u.size, .int .i64 u.idle] 25)) b8 p (.slice ka2 kn2 kc2) (.slice va2 vn2 vc2) (.slice da2 dn2 dc2)) := (S13.out).below (below_alloc _)
      have Qw13b : Hid (PIn (w13.alloc (.cells #[.int .i64 u.kind, .slice uk km kc5, .slice va5 vn5 vc5, .slice (some ud) kn dc5, .int .i64 u.root, .int .i64 u.next, .int .i64 u.size, .int .i64 u.idle] 25)) b9 q (.slice (some qk) (kn + 1) kc3) (.slice va3 vn3 vc3) (.slice (some qd) (kn + 2) dc3)) := (Q13.out).below (below_alloc _)
      have Yw13b : Hid (Below w.heap.size w (w13.alloc (.cells #[.int .i64 u.kind, .slice uk km kc5, .slice va5 vn5 vc5, .slice (some ud) kn dc5, .int .i64 u.root, .int .i64 u.next, .int .i64 u.size, .int .i64 u.idle] 25))) := Y13.out.alloc Y13.out.size _
      clear hpp P13 S13 Q13 Y13
      try unfold pgv
      go_upto_region 15 with fail
      generalize (w13.alloc (.cells #[.int .i64 u.kind, .slice uk km kc5, .slice va5 vn5 vc5, .slice (some ud) kn dc5, .int .i64 u.root, .int .i64 u.next, .int .i64 u.size, .int .i64 u.idle] 25)) = w13b at *
      obtain ⟨b11, hb⟩ : ∃ b, w13.heap.size = b := ⟨_, rfl⟩
      rw [hb] at Uw13b ⊢
      clear hb
      have b5 : km ≤ kc5 := by have := Uw13b.out.P.keys.at.2.1; rw [sv_length, HF.out.uk] at this; have := HKM.out; omega
      have hi5 : i ≤ km := by have := HKM.out; omega
      have HN5 : Hid (uk = none → kc5 = 0) := fun e => (Uw13b.out.P.keys.at.2.2.2.1 e).2
      have hs1 := fun W => slice_to uk km kc5 i hi5 b5 HN5.out W
      have hs2 := fun W => slice_from uk km kc5 i hi5 b5 HN5.out W
      have HD5 : Hid (∀ W, Rd W (.slice uk km kc5) (sv u.keys) → Rd W (.slice (if kc5 = i then uk else uk.map (·.add i)) (km - i) (kc5 - i)) (sv (u.keys.drop i))) := fun W h => by rw [sv_drop]; exact Rd.dropA h hi5 HN5.out
      have HT5 : Hid (∀ W, Rd W (.slice uk km kc5) (sv u.keys) → Rd W (.slice uk i kc5) (sv (u.keys.take i))) := fun W h => by rw [sv_take]; exact Rd.take h hi5
      generalize (if kc5 = i then uk else uk.map (·.add i)) = zu at *
      refine wp_region_ext (by kernel_rfl) ?_
      have Pc0 : Hid (PIn w13b.drew b7 p (.slice (some pk) kn kc1) (.slice va1 vn1 vc1) (.slice (some pd) (kn + 1) dc1)) := Pw13b.out.below (Below.drew (Below.refl _ _))
      have Sc0 : Hid (PIn w13b.drew b8 p (.slice ka2 kn2 kc2) (.slice va2 vn2 vc2) (.slice da2 dn2 dc2)) := Sw13b.out.below (Below.drew (Below.refl _ _))
      have Qc0 : Hid (PIn w13b.drew b9 q (.slice (some qk) (kn + 1) kc3) (.slice va3 vn3 vc3) (.slice (some qd) (kn + 2) dc3)) := Qw13b.out.below (Below.drew (Below.refl _ _))
      have Uc0 : Hid (PIn w13b.drew b11 u (.slice uk km kc5) (.slice va5 vn5 vc5) (.slice (some ud) kn dc5)) := Uw13b.out.below (Below.drew (Below.refl _ _))
      have Yc0 : Hid (Below w.heap.size w w13b.drew) := Below.drew Yw13b.out
      clear Pw13b Sw13b Qw13b Uw13b Yw13b
      haveI nA := cls_ext w13b.drew
      obtain ⟨z0, z1, z2, z3, z4, z5, z6, z7⟩ := Pc0.out.B.cells
      have p0 := cellX (W0 := w13b.drew) z0
      have p1 := cellX (W0 := w13b.drew) z1
      have p2 := cellX (W0 := w13b.drew) z2
      have p3 := cellX (W0 := w13b.drew) z3
      have p4 := cellX (W0 := w13b.drew) z4
      have p5 := cellX (W0 := w13b.drew) z5
      have p6 := cellX (W0 := w13b.drew) z6
      have p7 := cellX (W0 := w13b.drew) z7
      clear z0 z1 z2 z3 z4 z5 z6 z7
      obtain ⟨z0, z1, z2, z3, z4, z5, z6, z7⟩ := Uc0.out.B.cells
      have q0 := cellX (W0 := w13b.drew) z0
      have q1 := cellX (W0 := w13b.drew) z1
      have q2 := cellX (W0 := w13b.drew) z2
      have q3 := cellX (W0 := w13b.drew) z3
      have q4 := cellX (W0 := w13b.drew) z4
      have q5 := cellX (W0 := w13b.drew) z5
      have q6 := cellX (W0 := w13b.drew) z6
      have q7 := cellX (W0 := w13b.drew) z7
      clear z0 z1 z2 z3 z4 z5 z6 z7
      refine wpAnyH_seg (by kernel_rfl) (fun _ _ _ h => h) [0, 1, 2, 3, 4, 5, 6, 7, 8, 9, 10, 11, 12, 13, 14, 15, 16] 16 _ _ _ (Ext.refl _) (by kernel_rfl) ?_
      simp only [opsAt, List.getElem?_toArray, List.getElem?_cons_zero, List.getElem?_cons_succ, List.cons_append, List.nil_append]
      repeat (go_big_quiet_step (fail))
      refine wpQuiet_nil ?_
      clear nA p0 p1 p2 p3 p4 p5 p6 p7 q0 q1 q2 q3 q4 q5 q6 q7
      refine wpAnyH_callE (i := 17) (fuel := 15) 156 rfl (by kernel_rfl) rfl (Ext.refl _) (by kernel_rfl) (f := 37) (args := #[.slice uk i kc5, .slice (some pk) i kc1]) (by kernel_rfl) (same7_true _ _ _ _ w13b.drew (HT5.out w13b.drew Uc0.out.P.keys) (by have := Rd.take Pc0.out.P.keys (k := i) (by omega); rw [sv_take]; exact this) HF.out.u1) ?_
      rintro e wc1 ⟨rfl, y⟩
      refine ⟨_, rfl, y, ?_⟩
      have Pc1 : Hid (PIn wc1 b7 p (.slice (some pk) kn kc1) (.slice va1 vn1 vc1) (.slice (some pd) (kn + 1) dc1)) := Pc0.out.below y
      have Sc1 : Hid (PIn wc1 b8 p (.slice ka2 kn2 kc2) (.slice va2 vn2 vc2) (.slice da2 dn2 dc2)) := Sc0.out.below y
      have Qc1 : Hid (PIn wc1 b9 q (.slice (some qk) (kn + 1) kc3) (.slice va3 vn3 vc3) (.slice (some qd) (kn + 2) dc3)) := Qc0.out.below y
      have Uc1 : Hid (PIn wc1 b11 u (.slice uk km kc5) (.slice va5 vn5 vc5) (.slice (some ud) kn dc5)) := Uc0.out.below y
      have Yc1 : Hid (Below w.heap.size w wc1) := ext_trans Yc0.out y
      clear Pc0 Sc0 Qc0 Uc0 Yc0 y
      simp only [Act.put, List.setIfInBounds_toArray, List.set_cons_succ, List.set_cons_zero]
      haveI nA := cls_ext wc1
      obtain ⟨z0, z1, z2, z3, z4, z5, z6, z7⟩ := Pc1.out.B.cells
      have p0 := cellX (W0 := wc1) z0
      have p1 := cellX (W0 := wc1) z1
      have p2 := cellX (W0 := wc1) z2
      have p3 := cellX (W0 := wc1) z3
      have p4 := cellX (W0 := wc1) z4
      have p5 := cellX (W0 := wc1) z5
      have p6 := cellX (W0 := wc1) z6
      have p7 := cellX (W0 := wc1) z7
      clear z0 z1 z2 z3 z4 z5 z6 z7
      obtain ⟨z0, z1, z2, z3, z4, z5, z6, z7⟩ := Uc1.out.B.cells
      have q0 := cellX (W0 := wc1) z0
      have q1 := cellX (W0 := wc1) z1
      have q2 := cellX (W0 := wc1) z2
      have q3 := cellX (W0 := wc1) z3
      have q4 := cellX (W0 := wc1) z4
      have q5 := cellX (W0 := wc1) z5
      have q6 := cellX (W0 := wc1) z6
      have q7 := cellX (W0 := wc1) z7
      clear z0 z1 z2 z3 z4 z5 z6 z7
      refine wpAnyH_seg (by kernel_rfl) (fun _ _ _ h => h) [18, 19, 20, 21, 22, 23, 24, 25, 26, 27, 28, 29] 3 _ _ _ (Ext.refl _) (by kernel_rfl) ?_
      simp only [opsAt, List.getElem?_toArray, List.getElem?_cons_zero, List.getElem?_cons_succ, List.cons_append, List.nil_append]
      repeat (go_big_quiet_step (fail))
      refine wpQuiet_nil ?_
      clear nA p0 p1 p2 p3 p4 p5 p6 p7 q0 q1 q2 q3 q4 q5 q6 q7
      refine wpAnyH_callE (i := 30) (fuel := 2) 169 rfl (by kernel_rfl) rfl (Ext.refl _) (by kernel_rfl) (f := 37) (args := #[.slice zu (km - i) (kc5 - i), .slice (if kc1 = i + 1 then some pk else some ⟨pk.block, pk.off + (i + 1), none⟩) (kn - (i + 1)) (kc1 - (i + 1))]) (by kernel_rfl) (same7_true _ _ _ _ wc1 (HD5.out wc1 Uc1.out.P.keys) (by have := Rd.dropS Pc1.out.P.keys (k := i) (by omega); rw [sv_drop]; exact this) HF.out.u2) ?_
      rintro e wc2 ⟨rfl, y⟩
      refine ⟨_, rfl, y, ?_⟩
      have Pc2 : Hid (PIn wc2 b7 p (.slice (some pk) kn kc1) (.slice va1 vn1 vc1) (.slice (some pd) (kn + 1) dc1)) := Pc1.out.below y
      have Sc2 : Hid (PIn wc2 b8 p (.slice ka2 kn2 kc2) (.slice va2 vn2 vc2) (.slice da2 dn2 dc2)) := Sc1.out.below y
      have Qc2 : Hid (PIn wc2 b9 q (.slice (some qk) (kn + 1) kc3) (.slice va3 vn3 vc3) (.slice (some qd) (kn + 2) dc3)) := Qc1.out.below y
      have Uc2 : Hid (PIn wc2 b11 u (.slice uk km kc5) (.slice va5 vn5 vc5) (.slice (some ud) kn dc5)) := Uc1.out.below y
      have Yc2 : Hid (Below w.heap.size w wc2) := ext_trans Yc1.out y
      clear Pc1 Sc1 Qc1 Uc1 Yc1 y
      simp only [Act.put, List.setIfInBounds_toArray, List.set_cons_succ, List.set_cons_zero]
      haveI nA := cls_ext wc2
      obtain ⟨z0, z1, z2, z3, z4, z5, z6, z7⟩ := Pc2.out.B.cells
      have p0 := cellX (W0 := wc2) z0
      have p1 := cellX (W0 := wc2) z1
      have p2 := cellX (W0 := wc2) z2
      have p3 := cellX (W0 := wc2) z3
      have p4 := cellX (W0 := wc2) z4
      have p5 := cellX (W0 := wc2) z5
      have p6 := cellX (W0 := wc2) z6
      have p7 := cellX (W0 := wc2) z7
      clear z0 z1 z2 z3 z4 z5 z6 z7
      obtain ⟨z0, z1, z2, z3, z4, z5, z6, z7⟩ := Uc2.out.B.cells
      have q0 := cellX (W0 := wc2) z0
      have q1 := cellX (W0 := wc2) z1
      have q2 := cellX (W0 := wc2) z2
      have q3 := cellX (W0 := wc2) z3
      have q4 := cellX (W0 := wc2) z4
      have q5 := cellX (W0 := wc2) z5
      have q6 := cellX (W0 := wc2) z6
      have q7 := cellX (W0 := wc2) z7
      clear z0 z1 z2 z3 z4 z5 z6 z7
      refine wpAnyH_seg (by kernel_rfl) (fun _ _ _ h => h) [31, 32] 0 _ _ _ (Ext.refl _) (by kernel_rfl) ?_
      simp only [opsAt, List.getElem?_toArray, List.getElem?_cons_zero, List.getElem?_cons_succ, List.cons_append, List.nil_append]
      repeat (go_big_quiet_step (fail))
      refine wpQuiet_nil ?_
      clear nA p0 p1 p2 p3 p4 p5 p6 p7 q0 q1 q2 q3 q4 q5 q6 q7
      refine wpAnyH_done (by kernel_rfl) (NoPanic.normal ?_) 0
      generalize (if kc1 = i + 1 then (some pk : Option Addr) else some ⟨pk.block, pk.off + (i + 1), none⟩) = zpk
      clear hs1 hs2
      obtain ⟨x0, x1, x2, x3, x4, x5, x6, x7⟩ := Pc2.out.B.cells
      obtain ⟨z0, z1, z2, z3, z4, z5, z6, z7⟩ := Uc2.out.B.cells
      go_wp2
      clear x0 x1 x2 x3 x4 x5 x6 x7 z0 z1 z2 z3 z4 z5 z6 z7
      go_loopw [175] (fun vj wr => ∃ j : Nat, vj = .int .i64 (j : Int) ∧ j ≤ kn ∧ wr = wc2) (fun vj _ => kn - (intOf vj).toNat)
      case atStart => exact ⟨0, rfl, Nat.zero_le _, rfl⟩
      case round =>
        obtain ⟨j, rfl, hj, hw⟩ := hrel
        subst hw
        by_cases hjn : j < kn
        · have y1 := cell_kid Uc2.out.P (HF.out.udi j hjn)
          have y2 := cell_kid Pc2.out.P (HF.out.pdi j (by omega))
          have y3 := cell_kid Pc2.out.P (HF.out.pdi (j + 1) (by omega))
          have y4 : wr.cell? ⟨pd.block, pd.off + (j + 1), none⟩ = some (.int .i64 (5 + ((j + 1 : Nat) : Int))) := y3
          have x3 := Pc2.out.B.cells.2.2.2.1
          have hj1 : (j : Int) < (kn : Int) + 1 := by omega
          have hj2 : (j : Int) + 1 < (kn : Int) + 1 := by omega
          have hjc : ((j + 1 : Nat) : Int) = (j : Int) + 1 := by omega
          clear y3
          by_cases hij : i < j
          · rw [if_pos hij] at y1
            have hij2 : (i : Int) < (j : Int) := by omega
            go_wp2
            go_roundw
            case rel => exact ⟨j + 1, by go_num, hjn, trivial⟩
            case measure => simp [intOf]; omega
          · rw [if_neg hij] at y1
            have hij2 : ¬ ((i : Int) < (j : Int)) := by omega
            go_wp2
            go_roundw
            case rel => exact ⟨j + 1, by go_num, hjn, trivial⟩
            case measure => simp [intOf]; omega
        · clear hj
          have HUQ : Hid (∀ W, PgAt W q (.slice (some qk) (kn + 1) kc3) (.slice va3 vn3 vc3) (.slice (some qd) (kn + 2) dc3) → Calls Try.prog 38 #[pgv q (.slice (some qk) (kn + 1) kc3) (.slice va3 vn3 vc3) (.slice (some qd) (kn + 2) dc3), .int .i64 (i : Int)] W fun e w' => ∃ k3 v3 d3, e = .returned (pgv p k3 v3 d3) ∧ PgAt w' p k3 v3 d3 ∧ Below W.heap.size W w') := fun W h => by have := unhang_any q i _ _ _ W h HF.out.qin (by rw [HF.out.qk]; omega) ⟨by rw [HF.out.qk]; omega, by rw [HF.out.qv]; omega, by rw [HF.out.qd]; omega⟩; rw [HF.out.back] at this; exact this
          have HS2 : Hid (∀ W kv vv dv, PgAt W p kv vv dv → PgAt W p (.slice (some pk) kn kc1) (.slice va1 vn1 vc1) (.slice (some pd) (kn + 1) dc1) → Calls Try.prog 22 #[pgv p kv vv dv, pgv p (.slice (some pk) kn kc1) (.slice va1 vn1 vc1) (.slice (some pd) (kn + 1) dc1)] W fun e w' => e = .returned (.bool true) ∧ Below W.heap.size W w') := fun W _ _ _ h1 h2 => by have := psame_any p p _ _ _ _ _ _ W h1 h2; rw [(samePg_iff _ _).2 rfl] at this; exact this
          unfold pgv at HUQ HS2
          go_upto_region 26 with fail
          refine wp_region_ext (by kernel_rfl) ?_
          have Pd0 : Hid (PIn wr.drew b7 p (.slice (some pk) kn kc1) (.slice va1 vn1 vc1) (.slice (some pd) (kn + 1) dc1)) := Pc2.out.below (Below.drew (Below.refl _ _))
          have Sd0 : Hid (PIn wr.drew b8 p (.slice ka2 kn2 kc2) (.slice va2 vn2 vc2) (.slice da2 dn2 dc2)) := Sc2.out.below (Below.drew (Below.refl _ _))
          have Qd0 : Hid (PIn wr.drew b9 q (.slice (some qk) (kn + 1) kc3) (.slice va3 vn3 vc3) (.slice (some qd) (kn + 2) dc3)) := Qc2.out.below (Below.drew (Below.refl _ _))
          have Yd0 : Hid (Below w.heap.size w wr.drew) := Below.drew Yc2.out
          clear Pc2 Sc2 Qc2 Yc2
          haveI nA := cls_ext wr.drew
          obtain ⟨z0, z1, z2, z3, z4, z5, z6, z7⟩ := Qd0.out.B.cells
          have q0 := cellX (W0 := wr.drew) z0
          have q1 := cellX (W0 := wr.drew) z1
          have q2 := cellX (W0 := wr.drew) z2
          have q3 := cellX (W0 := wr.drew) z3
          have q4 := cellX (W0 := wr.drew) z4
          have q5 := cellX (W0 := wr.drew) z5
          have q6 := cellX (W0 := wr.drew) z6
          have q7 := cellX (W0 := wr.drew) z7
          clear z0 z1 z2 z3 z4 z5 z6 z7
          obtain ⟨z0, z1, z2, z3, z4, z5, z6, z7⟩ := Pd0.out.B.cells
          have p0 := cellX (W0 := wr.drew) z0
          have p1 := cellX (W0 := wr.drew) z1
          have p2 := cellX (W0 := wr.drew) z2
          have p3 := cellX (W0 := wr.drew) z3
          have p4 := cellX (W0 := wr.drew) z4
          have p5 := cellX (W0 := wr.drew) z5
          have p6 := cellX (W0 := wr.drew) z6
          have p7 := cellX (W0 := wr.drew) z7
          clear z0 z1 z2 z3 z4 z5 z6 z7
          refine wpAnyH_seg (by kernel_rfl) (fun _ _ _ h => h) [0, 1, 3] 8 _ _ _ (Ext.refl _) (by kernel_rfl) ?_
          simp only [opsAt, List.getElem?_toArray, List.getElem?_cons_zero, List.getElem?_cons_succ, List.cons_append, List.nil_append]
          repeat (go_big_quiet_step (fail))
          refine wpQuiet_nil ?_
          clear nA q0 q1 q2 q3 q4 q5 q6 q7 p0 p1 p2 p3 p4 p5 p6 p7
          refine wpAnyH_callE (i := 2) (fuel := 7) 200 rfl (by kernel_rfl) rfl (Ext.refl _) (by kernel_rfl) (f := 38) (args := #[.agg #[.int .i64 q.kind, .slice (some qk) (kn + 1) kc3, .slice va3 vn3 vc3, .slice (some qd) (kn + 2) dc3, .int .i64 q.root, .int .i64 q.next, .int .i64 q.size, .int .i64 q.idle], .int .i64 (i : Int)]) (by kernel_rfl) (HUQ.out wr.drew Qd0.out.P) ?_
          rintro e wd1 ⟨k6, v6, d6, rfl, hpp, y⟩
          refine ⟨_, rfl, y, ?_⟩
          obtain ⟨kn6, ka6, kc6, e1⟩ := hpp.keys.any
          obtain ⟨vn6, va6, vc6, e2⟩ := hpp.vals.any
          obtain ⟨dn6, da6, dc6, e3⟩ := hpp.kids.any
          subst e1 e2 e3
          have Pd1 : Hid (PIn wd1 b7 p (.slice (some pk) kn kc1) (.slice va1 vn1 vc1) (.slice (some pd) (kn + 1) dc1)) := Pd0.out.below y
          have Sd1 : Hid (PIn wd1 b8 p (.slice ka2 kn2 kc2) (.slice va2 vn2 vc2) (.slice da2 dn2 dc2)) := Sd0.out.below y
          have Qd1 : Hid (PIn wd1 b9 q (.slice (some qk) (kn + 1) kc3) (.slice va3 vn3 vc3) (.slice (some qd) (kn + 2) dc3)) := Qd0.out.below y
          have Yd1 : Hid (Below w.heap.size w wd1) := ext_trans Yd0.out y
          clear Pd0 Sd0 Qd0 Yd0 y
          simp only [Act.put, List.setIfInBounds_toArray, List.set_cons_succ, List.set_cons_zero]
          refine wpAnyH_callE (i := 4) (fuel := 6) 202 rfl (by kernel_rfl) rfl (Ext.refl _) (by kernel_rfl) (f := 22) (args := #[.agg #[.int .i64 p.kind, .slice ka6 kn6 kc6, .slice va6 vn6 vc6, .slice da6 dn6 dc6, .int .i64 p.root, .int .i64 p.next, .int .i64 p.size, .int .i64 p.idle], .agg #[.int .i64 p.kind, .slice (some pk) kn kc1, .slice va1 vn1 vc1, .slice (some pd) (kn + 1) dc1, .int .i64 p.root, .int .i64 p.next, .int .i64 p.size, .int .i64 p.idle]]) (by kernel_rfl) (HS2.out wd1 _ _ _ hpp Pd1.out.P) ?_
          rintro e wd2 ⟨rfl, y⟩
          refine ⟨_, rfl, y, ?_⟩
          clear hpp
          have Pd2 : Hid (PIn wd2 b7 p (.slice (some pk) kn kc1) (.slice va1 vn1 vc1) (.slice (some pd) (kn + 1) dc1)) := Pd1.out.below y
          have Sd2 : Hid (PIn wd2 b8 p (.slice ka2 kn2 kc2) (.slice va2 vn2 vc2) (.slice da2 dn2 dc2)) := Sd1.out.below y
          have Qd2 : Hid (PIn wd2 b9 q (.slice (some qk) (kn + 1) kc3) (.slice va3 vn3 vc3) (.slice (some qd) (kn + 2) dc3)) := Qd1.out.below y
          have Yd2 : Hid (Below w.heap.size w wd2) := ext_trans Yd1.out y
          clear Pd1 Sd1 Qd1 Yd1 y
          simp only [Act.put, List.setIfInBounds_toArray, List.set_cons_succ, List.set_cons_zero]
          haveI nA := cls_ext wd2
          obtain ⟨z0, z1, z2, z3, z4, z5, z6, z7⟩ := Pd2.out.B.cells
          have p0 := cellX (W0 := wd2) z0
          have p1 := cellX (W0 := wd2) z1
          have p2 := cellX (W0 := wd2) z2
          have p3 := cellX (W0 := wd2) z3
          have p4 := cellX (W0 := wd2) z4
          have p5 := cellX (W0 := wd2) z5
          have p6 := cellX (W0 := wd2) z6
          have p7 := cellX (W0 := wd2) z7
          clear z0 z1 z2 z3 z4 z5 z6 z7
          obtain ⟨z0, z1, z2, z3, z4, z5, z6, z7⟩ := Sd2.out.B.cells
          have q0 := cellX (W0 := wd2) z0
          have q1 := cellX (W0 := wd2) z1
          have q2 := cellX (W0 := wd2) z2
          have q3 := cellX (W0 := wd2) z3
          have q4 := cellX (W0 := wd2) z4
          have q5 := cellX (W0 := wd2) z5
          have q6 := cellX (W0 := wd2) z6
          have q7 := cellX (W0 := wd2) z7
          clear z0 z1 z2 z3 z4 z5 z6 z7
          refine wpAnyH_seg (by kernel_rfl) (fun _ _ _ h => h) [5, 6, 7] 3 _ _ _ (Ext.refl _) (by kernel_rfl) ?_
          simp only [opsAt, List.getElem?_toArray, List.getElem?_cons_zero, List.getElem?_cons_succ, List.cons_append, List.nil_append]
          repeat (go_big_quiet_step (fail))
          refine wpQuiet_nil ?_
          clear nA q0 q1 q2 q3 q4 q5 q6 q7 p0 p1 p2 p3 p4 p5 p6 p7
          refine wpAnyH_callE (i := 8) (fuel := 2) 206 rfl (by kernel_rfl) rfl (Ext.refl _) (by kernel_rfl) (f := 22) (args := #[.agg #[.int .i64 p.kind, .slice (some pk) kn kc1, .slice va1 vn1 vc1, .slice (some pd) (kn + 1) dc1, .int .i64 p.root, .int .i64 p.next, .int .i64 p.size, .int .i64 p.idle], .agg #[.int .i64 p.kind, .slice ka2 kn2 kc2, .slice va2 vn2 vc2, .slice da2 dn2 dc2, .int .i64 p.root, .int .i64 p.next, .int .i64 p.size, .int .i64 p.idle]]) (by kernel_rfl) (HSM.out wd2 Pd2.out.P Sd2.out.P) ?_
          rintro e wd3 ⟨rfl, y⟩
          refine ⟨_, rfl, y, ?_⟩
          have Pd3 : Hid (PIn wd3 b7 p (.slice (some pk) kn kc1) (.slice va1 vn1 vc1) (.slice (some pd) (kn + 1) dc1)) := Pd2.out.below y
          have Sd3 : Hid (PIn wd3 b8 p (.slice ka2 kn2 kc2) (.slice va2 vn2 vc2) (.slice da2 dn2 dc2)) := Sd2.out.below y
          have Qd3 : Hid (PIn wd3 b9 q (.slice (some qk) (kn + 1) kc3) (.slice va3 vn3 vc3) (.slice (some qd) (kn + 2) dc3)) := Qd2.out.below y
          have Yd3 : Hid (Below w.heap.size w wd3) := ext_trans Yd2.out y
          clear Pd2 Sd2 Qd2 Yd2 y
          simp only [Act.put, List.setIfInBounds_toArray, List.set_cons_succ, List.set_cons_zero]
          haveI nA := cls_ext wd3
          refine wpAnyH_seg (by kernel_rfl) (fun _ _ _ h => h) [9, 10] 0 _ _ _ (Ext.refl _) (by kernel_rfl) ?_
          simp only [opsAt, List.getElem?_toArray, List.getElem?_cons_zero, List.getElem?_cons_succ, List.cons_append, List.nil_append]
          repeat (go_big_quiet_step (fail))
          refine wpQuiet_nil ?_
          clear nA
          refine wpAnyH_done (by kernel_rfl) (NoPanic.normal ?_) 0
          have YE : Hid _ := Yd3.out
          clear Pd3 Sd3 Qd3 Yd3
          go_wp2
          go_ret
          exact ⟨ret_bool (by simp), YE.out⟩
end Go.Proofs.Ytmjekecalghhdaa

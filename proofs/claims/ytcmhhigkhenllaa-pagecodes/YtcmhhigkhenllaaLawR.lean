/- The law's own right: what it comes to. Own lemmas, no statement. -/
import Derived.Test.YtcmhhigkhenllaaPg8
import Derived.Deep.Cut
import Derived.Deep.CutRange
namespace Go.Proofs.Ytcmhhigkhenllaa
open Go.ChangeShapes Go.WideShapes Go.ChangeAt Go.RowKit

theorem right_keys {p : Pg} (h : keysOk p.keys = false) : rightPg p = false := by
  cases hr : rightPg p with
  | false => rfl
  | true =>
    unfold rightPg at hr
    have hn : noL p = true → False := fun hn => by
      simp [noL] at hn
      rw [hn.1.1] at h
      cases h
    split at hr
    · rw [((leafOk_iff p).1 hr).2.2.2.2.1] at h; cases h
    · split at hr
      · rw [((innerOk_iff p).1 hr).2.2.2.2.2.1] at h; cases h
      · split at hr
        · exact (hn ((metaOk_iff p).1 hr).1).elim
        · split at hr
          · exact (hn ((freeOk_iff p).1 hr).1).elim
          · cases hr

set_option maxHeartbeats 1000000 in
theorem inn_any (n : Int) (w : World) : Calls Try.prog 48 #[.int .i64 n] w fun e w' => e = .returned (.bool (pageOk n)) ∧ w' = w := by
  go_enter Try.func48, Try.ntmps48
  by_cases h0 : 0 ≤ n
  · go_wp2
    go_ret
    refine ⟨ret_bool ?_, rfl⟩
    rw [Bool.eq_iff_iff]
    simp [pageOk, h0]
    omega
  · go_wp2
    go_ret
    exact ⟨ret_bool (by simp [pageOk]; omega), rfl⟩

set_option maxRecDepth 100000 in
set_option maxHeartbeats 16000000 in
theorem lawRight_any (p : Pg) (kv vv dv : Value) (w : World) (hp : PgAt w p kv vv dv) (hok : p.Ok) :
    Calls Try.prog 19 #[pgv p kv vv dv] w fun e w' => e = .returned (.bool (rightPg p)) ∧ Below w.heap.size w w' := by
  have HO : Hid p.Ok := hok
  obtain ⟨ka, kc, va, vc, da, dc, rfl, rfl, rfl, b1, b2, b3⟩ := hp.forms
  have HP0 : Hid (PgAt w p (.slice ka p.keys.length kc) (.slice va p.vals.length vc) (.slice da p.kids.length dc)) := hp
  obtain ⟨kn, hkn⟩ : ∃ n, p.keys.length = n := ⟨_, rfl⟩
  obtain ⟨vn, hvn⟩ : ∃ n, p.vals.length = n := ⟨_, rfl⟩
  obtain ⟨dn, hdn⟩ : ∃ n, p.kids.length = n := ⟨_, rfl⟩
  have HKN : Hid (p.keys.length = kn) := hkn
  have HVN : Hid (p.vals.length = vn) := hvn
  have HDN : Hid (p.kids.length = dn) := hdn
  rw [hkn, hvn, hdn] at HP0 ⊢
  rw [hkn] at b1
  rw [hvn] at b2
  rw [hdn] at b3
  clear hkn hvn hdn hp hok
  unfold maxLen at b1 b2 b3
  obtain ⟨W1, hW1⟩ : ∃ W, W = w.alloc (.cells #[.int .i64 p.kind, .slice ka kn kc, .slice va vn vc, .slice da dn dc, .int .i64 p.root, .int .i64 p.next, .int .i64 p.size, .int .i64 p.idle] 25) := ⟨_, rfl⟩
  have HB : Hid (PBox W1 w.heap.size p (.slice ka kn kc) (.slice va vn vc) (.slice da dn dc)) := by rw [hW1]; exact pbox_new _ _ _ _ _
  have HE : Hid (Below w.heap.size w W1) := by rw [hW1]; exact (Below.refl _ _).alloc (Nat.le_refl _) _
  have HP : Hid (PgAt W1 p (.slice ka kn kc) (.slice va vn vc) (.slice da dn dc)) := HP0.out.below HE.out
  clear HP0
  unfold pgv
  go_enter Try.func19, Try.ntmps19
  go_upto_region 1 with fail
  rw [← hW1]
  clear hW1
  obtain ⟨z0, z1, z2, z3, z4, z5, z6, z7⟩ := HB.out.cells
  go_wp2
  go_loop [3, 4, 14] (fun _ _ i => ∃ k : Nat, i = .int .i64 k ∧ k ≤ kn ∧ allB (okAt p.keys) k = true) (fun _ _ i => kn - (intOf i).toNat)
  case atStart => exact ⟨0, rfl, Nat.zero_le _, rfl⟩
  case round =>
    obtain ⟨k, rfl, hk, hall⟩ := hrel
    have HA : Hid (allB (okAt p.keys) k = true) := hall
    clear hall
    by_cases hlt : k < kn
    · have hlt1 : k < p.keys.length := by have := HKN.out; omega
      have ha := HP.out.keys.at.2.2.2
      obtain ⟨ad, had⟩ := ha.ad (by rw [sv_length]; omega)
      subst had
      have y1 := ha.str rfl hlt1
      have hz := HO.out.keys p.keys[k] (List.getElem_mem _)
      unfold maxLen at hz
      have HBAD : Hid (okAt p.keys k = false → rightPg p = false) := fun h => right_keys (by rw [keysOk]; exact allB_false hlt1 h)
      rcases (show k = 0 ∨ ∃ m, k = m + 1 from by cases k; exact .inl rfl; exact .inr ⟨_, rfl⟩) with hk0 | ⟨m, hm⟩
      · have HV : Hid (okAt p.keys k = keyOk p.keys[k]) := by show _ = _; rw [okAt, getD_of hlt1]; simp [hk0]
        have hk1 : ¬ 0 < k := by omega
        have hk2 : ¬ (0 : Int) < (k : Int) := by omega
        generalize p.keys[k] = x at *
        clear hlt1 hk0 ha
        rcases (show x.size = 0 ∨ (0 < x.size ∧ x.size ≤ 24) ∨ 24 < x.size by omega) with h | h | h
        · go_wp2
          go_ret
          exact ⟨ret_bool (by rw [HBAD.out (by rw [HV.out, keyOk]; simp; omega)]), HE.out⟩
        · obtain ⟨h1, h2⟩ := h
          go_wp2
          go_round
          case rel => exact ⟨k + 1, by go_num, by omega, by rw [allB, HA.out, HV.out, keyOk]; simp; omega⟩
          case measure => simp [intOf]; omega
        · go_wp2
          go_ret
          exact ⟨ret_bool (by rw [HBAD.out (by rw [HV.out, keyOk]; simp; omega)]), HE.out⟩
      · have hlt2 : m < p.keys.length := by omega
        have y2 := ha.str rfl hlt2
        have HV : Hid (okAt p.keys k = (keyOk p.keys[k] && ltK p.keys[m] p.keys[k])) := by show _ = _; rw [okAt, getD_of hlt1, show k - 1 = m by omega, getD_of hlt2, decide_eq_false (show ¬ k = 0 by omega), Bool.false_or]
        unfold ltK at HV
        have hk1 : 0 < k := by omega
        have hk2 : (0 : Int) < (k : Int) := by omega
        have hk3 : (k : Int) - 1 = (m : Int) := by omega
        have hk4 : m < kn := by omega
        have HKM : Hid (k = m + 1) := hm
        generalize p.keys[k] = x at *
        generalize p.keys[m] = y at *
        clear hlt1 hlt2 hm ha
        rcases (show x.size = 0 ∨ (0 < x.size ∧ x.size ≤ 24) ∨ 24 < x.size by omega) with h | h | h
        · go_wp2
          go_ret
          exact ⟨ret_bool (by rw [HBAD.out (by rw [HV.out, keyOk]; simp; omega)]), HE.out⟩
        · obtain ⟨h1, h2⟩ := h
          cases hb : Op.bytesLess y.toList x.toList with
          | true =>
            go_wp2
            go_round
            case rel => exact ⟨k + 1, by go_num, by omega, by rw [allB, HA.out, HV.out, keyOk, hb]; simp; omega⟩
            case measure => simp [intOf]; omega
          | false =>
            go_wp2
            go_ret
            exact ⟨ret_bool (by rw [HBAD.out (by rw [HV.out, hb]; simp)]), HE.out⟩
        · go_wp2
          go_ret
          exact ⟨ret_bool (by rw [HBAD.out (by rw [HV.out, keyOk]; simp; omega)]), HE.out⟩
    · have hkk : k = kn := by omega
      subst hkk
      have HKO : Hid (keysOk p.keys = true) := by
        show _ = _
        rw [keysOk, HKN.out]; exact HA.out
      obtain ⟨nz, hnz⟩ : ∃ x, sameNum p .zero = x := ⟨_, rfl⟩
      have HNZ : Hid (nz = sameNum p .zero) := hnz.symm
      clear hnz
      go_upto_region 7 with fail
      go_cut [5] from 42 (fun s5 wx => s5 = .bool nz ∧ wx = W1)
      case first =>
        have HN4 : Hid (nz = ((p.root == 0) && (p.next == 0) && (p.size == 0) && (p.idle == 0))) := by
          show _ = _
          rw [HNZ.out]; rfl
        cases r1 : (p.root == 0) with
        | false =>
          rw [r1] at HN4
          go_wp2
          go_meet
          exact ⟨by rw [HN4.out]; rfl, rfl⟩
        | true =>
          rw [r1] at HN4
          cases r2 : (p.next == 0) with
          | false =>
            rw [r2] at HN4
            go_wp2
            go_meet
            exact ⟨by rw [HN4.out]; rfl, rfl⟩
          | true =>
            rw [r2] at HN4
            cases r3 : (p.size == 0) with
            | false =>
              rw [r3] at HN4
              go_wp2
              go_meet
              exact ⟨by rw [HN4.out]; rfl, rfl⟩
            | true =>
              rw [r3] at HN4
              go_wp2
              go_meet
              exact ⟨by rw [HN4.out]; rfl, rfl⟩
      case rest =>
        obtain ⟨rfl, rfl⟩ := hcut
        clear HA hk hlt
        have HKK : Hid (∀ i : Int, (p.kind == i) = decide (p.kind = i)) := fun i => rfl
        have HF : Hid (rightPg p = if p.kind = 1 then (decide (k ≤ 6) && decide (vn = k) && decide (dn = 0) && nz && valsOk p.vals) else if p.kind = 2 then (decide (2 ≤ dn) && decide (dn ≤ 8) && decide (k + 1 = dn) && decide (vn = 0) && nz && kidsOk p.kids) else if p.kind = 3 then ((decide (k = 0) && decide (vn = 0) && decide (dn = 0)) && pageOk p.root && pageOk p.next && decide (0 ≤ p.size) && decide (p.size ≤ 65536) && decide (0 ≤ p.idle) && decide (p.idle ≤ p.size)) else if p.kind = 4 then ((decide (k = 0) && decide (vn = 0) && decide (dn = 0)) && pageOk p.next && (decide (p.root = 0) && decide (p.size = 0) && decide (p.idle = 0))) else false) := by
          show _ = _
          rw [rightPg, leafOk, innerOk, metaOk, freeOk, noL, HKO.out, HKN.out, HVN.out, HDN.out, ← HNZ.out]
          simp only [sameNum, Bool.and_true, decide_true]
        clear HKO HNZ
        by_cases c1 : p.kind = 1
        · have k1 : (p.kind == 1) = true := by rw [HKK.out]; simp [c1]
          have HR : Hid (rightPg p = (decide (k ≤ 6) && decide (vn = k) && decide (dn = 0) && nz && valsOk p.vals)) := by rw [HF.out, if_pos c1]; exact rfl
          clear c1 HF
          go_wp2
          go_loop [8, 67] (fun _ i => ∃ j : Nat, i = .int .i64 j ∧ j ≤ vn ∧ allB (valAt p.vals) j = true) (fun _ i => vn - (intOf i).toNat)
          case atStart => exact ⟨0, rfl, Nat.zero_le _, rfl⟩
          case round =>
            obtain ⟨j, rfl, hj, hall⟩ := hrel
            have HA : Hid (allB (valAt p.vals) j = true) := hall
            clear hall
            by_cases hlt : j < vn
            · have hlt1 : j < p.vals.length := by have := HVN.out; omega
              have ha := HP.out.vals.at.2.2.2
              obtain ⟨ad, had⟩ := ha.ad (by rw [sv_length]; omega)
              subst had
              have y1 := ha.str rfl hlt1
              have hz := HO.out.vals p.vals[j] (List.getElem_mem _)
              unfold maxLen at hz
              have HV : Hid (valAt p.vals j = decide (p.vals[j].size ≤ 48)) := by show _ = _; rw [valAt, getD_of hlt1]
              have HBAD : Hid (valAt p.vals j = false → rightPg p = false) := fun h => by rw [HR.out, show valsOk p.vals = false from allB_false hlt1 h]; simp
              generalize p.vals[j] = x at *
              clear hlt1 ha
              by_cases h48 : x.size ≤ 48
              · go_wp2
                go_round
                case rel => exact ⟨j + 1, by go_num, by omega, by rw [allB, HA.out, HV.out]; simp [h48]⟩
                case measure => simp [intOf]; omega
              · go_wp2
                go_ret
                exact ⟨ret_bool (by rw [HBAD.out (by rw [HV.out]; simp; omega)]), HE.out⟩
            · have hjn : j = vn := by omega
              have HR2 : Hid (rightPg p = (decide (k ≤ 6) && decide (vn = k) && decide (dn = 0) && nz)) := by
                show _ = _
                rw [HR.out, show valsOk p.vals = true by rw [valsOk, HVN.out, ← hjn]; exact HA.out, Bool.and_true]
              clear HR HA
              subst hjn
              by_cases g1 : k ≤ 6
              · by_cases g2 : j = k
                · subst g2
                  by_cases g3 : dn = 0
                  · subst g3
                    go_wp2
                    go_ret
                    exact ⟨ret_bool (by rw [HR2.out]; simp [g1]), HE.out⟩
                  · go_wp2
                    go_ret
                    exact ⟨ret_bool (by rw [HR2.out]; simp [g3]), HE.out⟩
                · go_wp2
                  go_ret
                  exact ⟨ret_bool (by rw [HR2.out]; simp [g2]), HE.out⟩
              · go_wp2
                go_ret
                exact ⟨ret_bool (by rw [HR2.out]; simp [g1]), HE.out⟩
        · have k1 : (p.kind == 1) = false := by rw [HKK.out]; simp [c1]
          by_cases c2 : p.kind = 2
          · have k2 : (p.kind == 2) = true := by rw [HKK.out]; simp [c2]
            have HR : Hid (rightPg p = (decide (2 ≤ dn) && decide (dn ≤ 8) && decide (k + 1 = dn) && decide (vn = 0) && nz && kidsOk p.kids)) := by rw [HF.out, if_neg c1, if_pos c2]; exact rfl
            clear c1 c2 HF
            go_wp2
            go_loop [10, 102] (fun _ i => ∃ j : Nat, i = .int .i64 j ∧ j ≤ dn ∧ allB (kidAt p.kids) j = true) (fun _ i => dn - (intOf i).toNat)
            case atStart => exact ⟨0, rfl, Nat.zero_le _, rfl⟩
            case round =>
              obtain ⟨j, rfl, hj, hall⟩ := hrel
              have HA : Hid (allB (kidAt p.kids) j = true) := hall
              clear hall
              by_cases hlt : j < dn
              · have hlt1 : j < p.kids.length := by have := HDN.out; omega
                have ha := HP.out.kids.at.2.2.2
                obtain ⟨ad, had⟩ := ha.ad (by rw [iv_length]; omega)
                subst had
                have y1 := ha.num rfl hlt1
                have HV : Hid (kidAt p.kids j = pageOk p.kids[j]) := by show _ = _; rw [kidAt, getD_of hlt1]
                have HBAD : Hid (kidAt p.kids j = false → rightPg p = false) := fun h => by rw [HR.out, show kidsOk p.kids = false from allB_false hlt1 h]; simp
                generalize p.kids[j] = x at *
                have HC := fun W => inn_any x W
                clear hlt1 ha
                cases hb : pageOk x with
                | true =>
                  go_wp2_with (go_at_call 48; refine (HC _).mono ?_; rintro e w' ⟨rfl, rfl⟩)
                  go_round
                  case rel => exact ⟨j + 1, by go_num, by omega, by rw [allB, HA.out, HV.out]; simp [hb]⟩
                  case measure => simp [intOf]; omega
                | false =>
                  go_wp2_with (go_at_call 48; refine (HC _).mono ?_; rintro e w' ⟨rfl, rfl⟩)
                  go_ret
                  exact ⟨ret_bool (by rw [HBAD.out (by rw [HV.out]; exact hb)]), HE.out⟩
              · have hjn : j = dn := by omega
                have HR2 : Hid (rightPg p = (decide (2 ≤ dn) && decide (dn ≤ 8) && decide (k + 1 = dn) && decide (vn = 0) && nz)) := by
                  show _ = _
                  rw [HR.out, show kidsOk p.kids = true by rw [kidsOk, HDN.out, ← hjn]; exact HA.out, Bool.and_true]
                clear HR HA
                subst hjn
                by_cases g1 : 2 ≤ j
                · by_cases g2 : j ≤ 8
                  · by_cases g3 : k + 1 = j
                    · have g3' : ((k : Int) == (j : Int) - 1) = true := by rw [beq_iff_eq]; omega
                      have G3 : Hid (k + 1 = j) := g3
                      clear g3
                      by_cases g4 : vn = 0
                      · subst g4
                        go_wp2
                        go_ret
                        exact ⟨ret_bool (by rw [HR2.out]; have := G3.out; simp; omega), HE.out⟩
                      · go_wp2
                        go_ret
                        exact ⟨ret_bool (by rw [HR2.out]; simp [g4]), HE.out⟩
                    · have g5 : ((k : Int) == (j : Int) - 1) = false := by rw [beq_eq_false_iff_ne]; omega
                      go_wp2
                      go_ret
                      exact ⟨ret_bool (by rw [HR2.out]; simp [g3]), HE.out⟩
                  · go_wp2
                    go_ret
                    exact ⟨ret_bool (by rw [HR2.out]; simp [g2]), HE.out⟩
                · go_wp2
                  go_ret
                  exact ⟨ret_bool (by rw [HR2.out]; simp [g1]), HE.out⟩
          · have k2 : (p.kind == 2) = false := by rw [HKK.out]; simp [c2]
            obtain ⟨x4, hx4⟩ : ∃ b, pageOk p.root = b := ⟨_, rfl⟩
            obtain ⟨x5, hx5⟩ : ∃ b, pageOk p.next = b := ⟨_, rfl⟩
            have H4 : Hid (∀ W, Calls Try.prog 48 #[.int .i64 p.root] W fun e w' => e = .returned (.bool x4) ∧ w' = W) := fun W => by rw [← hx4]; exact inn_any _ W
            have H5 : Hid (∀ W, Calls Try.prog 48 #[.int .i64 p.next] W fun e w' => e = .returned (.bool x5) ∧ w' = W) := fun W => by rw [← hx5]; exact inn_any _ W
            rw [hx4, hx5] at HF
            clear hx4 hx5
            by_cases c3 : p.kind = 3
            · have k3 : (p.kind == 3) = true := by rw [HKK.out]; simp [c3]
              have HR : Hid (rightPg p = ((decide (k = 0) && decide (vn = 0) && decide (dn = 0)) && x4 && x5 && decide (0 ≤ p.size) && decide (p.size ≤ 65536) && decide (0 ≤ p.idle) && decide (p.idle ≤ p.size))) := by rw [HF.out, if_neg c1, if_neg c2, if_pos c3]; exact rfl
              clear c1 c2 c3 HF
              by_cases g1 : k = 0
              · subst g1
                by_cases g2 : vn = 0
                · subst g2
                  by_cases g3 : dn = 0
                  · subst g3
                    go_wp2_with fail
                    refine (H4.out _).mono ?_
                    rintro e w2 ⟨rfl, hw2⟩
                    subst hw2
                    cases x4 with
                    | false =>
                      go_wp2
                      go_ret
                      exact ⟨ret_bool (by rw [HR.out]; simp), HE.out⟩
                    | true =>
                      go_wp2_with fail
                      refine (H5.out _).mono ?_
                      rintro e w3 ⟨rfl, hw3⟩
                      subst hw3
                      cases x5 with
                      | false =>
                        go_wp2
                        go_ret
                        exact ⟨ret_bool (by rw [HR.out]; simp), HE.out⟩
                      | true =>
                        go_wp2
                        all_goals
                          go_ret
                          refine ⟨ret_bool ?_, HE.out⟩
                          rw [HR.out, Bool.eq_iff_iff]
                          simp only [Bool.and_eq_true, Bool.true_and, decide_eq_true_eq, Bool.false_eq_true, false_iff, decide_true]
                          omega
                  · go_wp2
                    go_ret
                    exact ⟨ret_bool (by rw [HR.out]; simp [g3]), HE.out⟩
                · go_wp2
                  go_ret
                  exact ⟨ret_bool (by rw [HR.out]; simp [g2]), HE.out⟩
              · go_wp2
                go_ret
                exact ⟨ret_bool (by rw [HR.out]; simp [g1]), HE.out⟩
            · have k3 : (p.kind == 3) = false := by rw [HKK.out]; simp [c3]
              by_cases c4 : p.kind = 4
              · have k4 : (p.kind == 4) = true := by rw [HKK.out]; simp [c4]
                have HR : Hid (rightPg p = ((decide (k = 0) && decide (vn = 0) && decide (dn = 0)) && x5 && (decide (p.root = 0) && decide (p.size = 0) && decide (p.idle = 0)))) := by rw [HF.out, if_neg c1, if_neg c2, if_neg c3, if_pos c4]; exact rfl
                clear c1 c2 c3 c4 HF
                by_cases g1 : k = 0
                · subst g1
                  by_cases g2 : vn = 0
                  · subst g2
                    by_cases g3 : dn = 0
                    · subst g3
                      cases g4 : (p.root == 0) with
                      | false =>
                        have g4' : ¬ p.root = 0 := by rw [beq_eq_false_iff_ne] at g4; exact g4
                        have G4 : Hid (¬ p.root = 0) := g4'
                        clear g4'
                        go_wp2
                        go_ret
                        exact ⟨ret_bool (by rw [HR.out]; have := G4.out; simp [this]), HE.out⟩
                      | true =>
                        have G4 : Hid (p.root = 0) := by rw [beq_iff_eq] at g4; exact g4
                        go_wp2_with fail
                        refine (H5.out _).mono ?_
                        rintro e w3 ⟨rfl, hw3⟩
                        subst hw3
                        cases x5 with
                        | false =>
                          go_wp2
                          go_ret
                          exact ⟨ret_bool (by rw [HR.out]; simp), HE.out⟩
                        | true =>
                          go_wp2
                          all_goals
                            go_ret
                            refine ⟨ret_bool ?_, HE.out⟩
                            have := G4.out
                            rw [HR.out, Bool.eq_iff_iff]
                            simp_all
                    · go_wp2
                      go_ret
                      exact ⟨ret_bool (by rw [HR.out]; simp [g3]), HE.out⟩
                  · go_wp2
                    go_ret
                    exact ⟨ret_bool (by rw [HR.out]; simp [g2]), HE.out⟩
                · go_wp2
                  go_ret
                  exact ⟨ret_bool (by rw [HR.out]; simp [g1]), HE.out⟩
              · have k4 : (p.kind == 4) = false := by rw [HKK.out]; simp [c4]
                have HR : Hid (rightPg p = false) := by rw [HF.out, if_neg c1, if_neg c2, if_neg c3, if_neg c4]; exact rfl
                clear c1 c2 c3 c4 HF
                go_wp2
                go_ret
                exact ⟨ret_bool (by rw [HR.out]), HE.out⟩
end Go.Proofs.Ytcmhhigkhenllaa

/- NetRuns: the walk of the law's Go text. Own lemmas, no statement. -/
import Derived.Test.YtcemecclpofhbaaNRun3
import Derived.Test.YtcemecclpofhbaaNRun6
import Derived.Test.YtcemecclpofhbaaNRun7
import Derived.Test.YtcemecclpofhbaaNRun8
import Derived.Test.YtcemecclpofhbaaNRun10
set_option linter.unusedSimpArgs false
set_option linter.unusedVariables false
namespace Go.Proofs.Ytcemecclpofhbaa
open Go.ChangeShapes Go.WideShapes Go.ChangeAt Go.RowKit

set_option maxRecDepth 100000 in
set_option maxHeartbeats 16000000 in
theorem walk_NetRuns (a : Option Addr) (len cap : Nat) (os : List OpN) (w : World) (hl : IsOpsN w a len os) : Calls Try.prog 3 #[.slice a len cap] w fun e w' => e = .returned (.bool true) ∧ Below w.heap.size w w' := by
  have HL : Hid (IsOpsN w a len os) := hl
  have h1 : len ≤ 9223372036854775807 := by have := hl.2.1; unfold maxLen at *; omega
  clear hl
  go_enter Try.func3, Try.ntmps3
  go_wp2_with fail
  refine (head16_any _).mono ?_
  rintro e w1 ⟨rfl, y⟩
  obtain ⟨w2, hw2⟩ : ∃ w2, w2 = (w1.alloc (.cells #[.slice none 0 0] 27)).alloc (.cells #[] 34) := ⟨_, rfl⟩
  have HRX : Hid (RunX w2 w1.heap.size w1.heap.size (.slice none 0 0) [] (.slice (some ⟨w1.heap.size + 1, 0, none⟩) 0 0) []) := by
    rw [hw2]
    have hl := LetI.new (w1.alloc (.cells #[.slice none 0 0] 27)) w1.heap.size (by simp)
    rw [show (w1.alloc (.cells #[.slice none 0 0] 27)).heap.size = w1.heap.size + 1 by simp] at hl
    refine ⟨(NetI.new w1).below (below_allocR _), hl, fun i hi hf => ?_⟩
    rcases hi with rfl | hi | ⟨x, hx, _⟩
    · rcases hf with hf | ⟨x, hx, _⟩
      · simp [Value.ownBlock] at hf
      · cases hx
    · cases hi
    · cases hx
  have HY2 : Hid (Below w.heap.size w w2) := by rw [hw2]; exact ext_trans (ext_trans y (below_allocR _)) (below_allocR _)
  have HBW : Hid (w.heap.size ≤ w1.heap.size) := y.size
  clear y
  go_upto_region 5 with fail
  rw [← hw2]
  clear hw2
  generalize w1.heap.size = p at *
  go_wp2_with fail
  refine wp_loop (RI w p a len cap) Rmu ?_ ?_
  · exact ⟨0, 0, .slice none 0 0, some ⟨p + 1, 0, none⟩, 0, [], [], ⟨rfl, rfl, rfl, rfl, rfl, rfl, rfl⟩, by omega, by omega, by omega, HBW.out, ⟨HRX.out, rfl, rfl, HY2.out⟩⟩
  · clear HRX HY2
    rintro a' wr ⟨k, n, v, ua, uc, ls, us, hsl, hk, hkl, hnk, hwp, hra⟩
    have hmu : Rmu a' wr = 60 - k := by unfold Rmu; rw [hsl.2.2.2.2.2.2]; simp [intOf]
    rw [hmu]
    have hlit := hsl.lit
    generalize (fun i => a'.tmps.getD i undef) = T at hlit
    subst hlit
    clear hsl hmu
    by_cases hlt : k < len ∧ k < 60
    · obtain ⟨ad, had⟩ : ∃ ad, a = some ad := by
        cases a with
        | none => have := HL.out.2.2.1 rfl; omega
        | some ad => exact ⟨ad, rfl⟩
      subst had
      obtain ⟨o, ho⟩ : ∃ o, os[k]? = some o := ⟨_, List.getElem?_eq_getElem (by have := HL.out.1; omega)⟩
      have hop := HL.out.2.2.2 ad rfl k o ho
      by_cases h0 : o.k = 0
      · by_cases hb : o.at_ < 0
        · exact run_send_bad1 w p ad len cap k n hlt.1 hlt.2 T v ua uc ls us wr _ o h1 hnk hwp hop hra h0 hb
        by_cases hb2 : 64 ≤ o.at_
        · exact run_send_bad2 w p ad len cap k n hlt.1 hlt.2 T v ua uc ls us wr _ o h1 hnk hwp hop hra h0 hb2
        by_cases hb3 : 200 < o.bn
        · exact run_send_bad3 w p ad len cap k n hlt.1 hlt.2 T v ua uc ls us wr _ o h1 hnk hwp hop hra h0 ⟨by omega, by omega⟩ hb3
        · exact run_send_ok w p ad len cap k n hlt.1 hlt.2 T v ua uc ls us wr _ o h1 hnk hwp hop hra h0 ⟨by omega, by omega⟩ hb3
      by_cases h1k : o.k = 1
      · exact run_take w p ad len cap k n hlt.1 hlt.2 T v ua uc ls us wr _ o h1 hnk hwp hop hra h1k
      by_cases h2k : o.k = 2
      · exact run_at w p ad len cap k n hlt.1 hlt.2 T v ua uc ls us wr _ o h1 hnk hwp hop hra h2k
      by_cases h3k : o.k = 3
      · exact run_twice w p ad len cap k n hlt.1 hlt.2 T v ua uc ls us wr _ o h1 hnk hwp hop hra h3k
      by_cases h4k : o.k = 4
      · exact run_spoil w p ad len cap k n hlt.1 hlt.2 T v ua uc ls us wr _ o h1 hnk hwp hop hra h4k
      · exact run_else w p ad len cap k n hlt.1 hlt.2 T v ua uc ls us wr _ o h1 hnk hwp hop hra h0 h1k h2k h3k h4k
    · have HRA : Hid (RunA w p n v ua uc ls us wr) := hra
      have hn60 : n ≤ 60 := by omega
      have huc := hra.uc
      clear hra HL
      unfold fr
      rcases (show len ≤ k ∨ (k < len ∧ 60 ≤ k) by omega) with hx | ⟨hx, hx'⟩
      · have hd1 : decide ((k : Int) < (len : Int)) = false := decide_eq_false (by omega)
        go_wp2_with fail
        go_loopw [295] (fun i wq => ∃ (m : Nat), i = .int .i64 m ∧ m ≤ n ∧ RunA w p n v ua uc ls us wq) (fun i _ => n - (intOf i).toNat)
        case atStart => exact ⟨0, rfl, Nat.zero_le _, HRA.out⟩
        case round =>
          obtain ⟨m, rfl, hm, hra⟩ := hrel
          clear HRA
          have HRA : Hid (RunA w p n v ua uc ls us wr) := hra
          clear hra
          by_cases hlt : m < n
          · obtain ⟨g, x, y, hua, hx, hy, hd, hb⟩ := HRA.out.own_at hlt
            subst hua
            have HXX : Hid (ls[m]? = some x ∧ x.dst = y.dst ∧ x.bs = y.bs) := ⟨hx, hd, hb⟩
            have HXY : Hid (us[m]? = some y) := hy
            have hyn : y.n = y.bs.length := (HRA.out.x.own.el y (List.mem_of_getElem? hy)).src.at.1
            have HYN : Hid (y.n = y.bs.length) := hyn
            have hy63 : y.n ≤ 200 := by
              have := (HRA.out.x.net.el x (List.mem_of_getElem? hx)).2.1
              rw [hb] at this
              omega
            clear hx hy hd hb hyn
            have hml : (m : Int) < (n : Int) := by omega
            have r0 : wr.cell? ⟨g, m * 2, none⟩ = some _ := (HRA.out.x.own.cell HXY.out).1
            have r1 : wr.cell? ⟨g, m * 2 + 1, none⟩ = some _ := (HRA.out.x.own.cell HXY.out).2
            obtain ⟨w5, hw5⟩ : ∃ w5, w5 = wr.alloc (.cells #[.int .i64 y.dst, .slice y.a y.n y.c] 34) := ⟨_, rfl⟩
            have HB5 : Hid (Blk w5 wr.heap.size #[.int .i64 y.dst, .slice y.a y.n y.c] 34) := by rw [hw5]; exact Blk.new _ _ _
            have HR5 : Hid (RunA w p n v (some ⟨g, 0, none⟩) uc ls us w5) := by rw [hw5]; exact HRA.out.go (below_allocR _)
            go_upto_region 63 with fail
            rw [← hw5]
            clear hw5 r0 r1
            generalize wr.heap.size = b at *
            have HX : Hid (Calls _ _ _ _ _) := at_any p p v ls (m : Int) w5 HR5.out.x.net
            go_wp2_with fail
            refine HX.out.mono ?_
            rintro e w6 ht
            obtain ⟨a6, k6, rfl, hO, hb⟩ := at_ok (i := m) ht HXX.out.1
            rw [HXX.out.2.1, HXX.out.2.2, ← HYN.out]
            rw [HXX.out.2.2, ← HYN.out] at hO
            obtain ⟨w7, hw7⟩ : ∃ w7, w7 = w6.alloc (.cells #[.int .i64 y.dst, .slice a6 y.n k6] 34) := ⟨_, rfl⟩
            have HE7 : Hid (Below w5.heap.size w5 w7) := by rw [hw7]; exact hb.alloc hb.size _
            have HC7 : Hid (Blk w7 w6.heap.size #[.int .i64 y.dst, .slice a6 y.n k6] 34) := by rw [hw7]; exact Blk.new _ _ _
            have HO7 : Hid (Own w7 w5.heap.size (.slice a6 y.n k6) y.bs) := by rw [hw7]; exact hO.alloc _
            clear hO hb ht HX
            go_upto_region 64 with fail
            rw [← hw7]
            clear hw7
            generalize w6.heap.size = b2 at *
            have HR7 : Hid (RunA w p n v (some ⟨g, 0, none⟩) uc ls us w7) := HR5.out.go HE7.out
            have hB7 := HB5.out.of (HE7.out.block _ HB5.out.lt)
            have z0 : w7.cell? ⟨b, 0, none⟩ = some (.int .i64 y.dst) := hB7.cell 0
            have z1 : w7.cell? ⟨b, 1, none⟩ = some (.slice y.a y.n y.c) := hB7.cell 1
            have y0 : w7.cell? ⟨b2, 0, none⟩ = some (.int .i64 y.dst) := HC7.out.cell 0
            have y1 : w7.cell? ⟨b2, 1, none⟩ = some (.slice a6 y.n k6) := HC7.out.cell 1
            have hs1 : (convert 28 9 (.slice a6 y.n k6)).run Try.prog w7 = .ok (.string ⟨y.bs.toArray⟩) w7 := HO7.out.src.str
            have hs2 : (convert 28 9 (.slice y.a y.n y.c)).run Try.prog w7 = .ok (.string ⟨y.bs.toArray⟩) w7 := (HR7.out.x.own.el y (List.mem_of_getElem? HXY.out)).src.str
            clear hB7 HRA HR5 HB5 HC7 HO7 HE7 HXX HXY
            go_wp2
            go_roundw
            case rel => exact ⟨m + 1, by go_num, by omega, HR7.out⟩
            case measure => simp [intOf]; omega
          · go_wp2
            go_ret
            exact ⟨rfl, HRA.out.below⟩
      · have hd1 : decide ((k : Int) < (len : Int)) = true := decide_eq_true (by omega)
        have hd2 : decide ((k : Int) < 60) = false := decide_eq_false (by omega)
        go_wp2_with fail
        go_loopw [295] (fun i wq => ∃ (m : Nat), i = .int .i64 m ∧ m ≤ n ∧ RunA w p n v ua uc ls us wq) (fun i _ => n - (intOf i).toNat)
        case atStart => exact ⟨0, rfl, Nat.zero_le _, HRA.out⟩
        case round =>
          obtain ⟨m, rfl, hm, hra⟩ := hrel
          clear HRA
          have HRA : Hid (RunA w p n v ua uc ls us wr) := hra
          clear hra
          by_cases hlt : m < n
          · obtain ⟨g, x, y, hua, hx, hy, hd, hb⟩ := HRA.out.own_at hlt
            subst hua
            have HXX : Hid (ls[m]? = some x ∧ x.dst = y.dst ∧ x.bs = y.bs) := ⟨hx, hd, hb⟩
            have HXY : Hid (us[m]? = some y) := hy
            have hyn : y.n = y.bs.length := (HRA.out.x.own.el y (List.mem_of_getElem? hy)).src.at.1
            have HYN : Hid (y.n = y.bs.length) := hyn
            have hy63 : y.n ≤ 200 := by
              have := (HRA.out.x.net.el x (List.mem_of_getElem? hx)).2.1
              rw [hb] at this
              omega
            clear hx hy hd hb hyn
            have hml : (m : Int) < (n : Int) := by omega
            have r0 : wr.cell? ⟨g, m * 2, none⟩ = some _ := (HRA.out.x.own.cell HXY.out).1
            have r1 : wr.cell? ⟨g, m * 2 + 1, none⟩ = some _ := (HRA.out.x.own.cell HXY.out).2
            obtain ⟨w5, hw5⟩ : ∃ w5, w5 = wr.alloc (.cells #[.int .i64 y.dst, .slice y.a y.n y.c] 34) := ⟨_, rfl⟩
            have HB5 : Hid (Blk w5 wr.heap.size #[.int .i64 y.dst, .slice y.a y.n y.c] 34) := by rw [hw5]; exact Blk.new _ _ _
            have HR5 : Hid (RunA w p n v (some ⟨g, 0, none⟩) uc ls us w5) := by rw [hw5]; exact HRA.out.go (below_allocR _)
            go_upto_region 63 with fail
            rw [← hw5]
            clear hw5 r0 r1
            generalize wr.heap.size = b at *
            have HX : Hid (Calls _ _ _ _ _) := at_any p p v ls (m : Int) w5 HR5.out.x.net
            go_wp2_with fail
            refine HX.out.mono ?_
            rintro e w6 ht
            obtain ⟨a6, k6, rfl, hO, hb⟩ := at_ok (i := m) ht HXX.out.1
            rw [HXX.out.2.1, HXX.out.2.2, ← HYN.out]
            rw [HXX.out.2.2, ← HYN.out] at hO
            obtain ⟨w7, hw7⟩ : ∃ w7, w7 = w6.alloc (.cells #[.int .i64 y.dst, .slice a6 y.n k6] 34) := ⟨_, rfl⟩
            have HE7 : Hid (Below w5.heap.size w5 w7) := by rw [hw7]; exact hb.alloc hb.size _
            have HC7 : Hid (Blk w7 w6.heap.size #[.int .i64 y.dst, .slice a6 y.n k6] 34) := by rw [hw7]; exact Blk.new _ _ _
            have HO7 : Hid (Own w7 w5.heap.size (.slice a6 y.n k6) y.bs) := by rw [hw7]; exact hO.alloc _
            clear hO hb ht HX
            go_upto_region 64 with fail
            rw [← hw7]
            clear hw7
            generalize w6.heap.size = b2 at *
            have HR7 : Hid (RunA w p n v (some ⟨g, 0, none⟩) uc ls us w7) := HR5.out.go HE7.out
            have hB7 := HB5.out.of (HE7.out.block _ HB5.out.lt)
            have z0 : w7.cell? ⟨b, 0, none⟩ = some (.int .i64 y.dst) := hB7.cell 0
            have z1 : w7.cell? ⟨b, 1, none⟩ = some (.slice y.a y.n y.c) := hB7.cell 1
            have y0 : w7.cell? ⟨b2, 0, none⟩ = some (.int .i64 y.dst) := HC7.out.cell 0
            have y1 : w7.cell? ⟨b2, 1, none⟩ = some (.slice a6 y.n k6) := HC7.out.cell 1
            have hs1 : (convert 28 9 (.slice a6 y.n k6)).run Try.prog w7 = .ok (.string ⟨y.bs.toArray⟩) w7 := HO7.out.src.str
            have hs2 : (convert 28 9 (.slice y.a y.n y.c)).run Try.prog w7 = .ok (.string ⟨y.bs.toArray⟩) w7 := (HR7.out.x.own.el y (List.mem_of_getElem? HXY.out)).src.str
            clear hB7 HRA HR5 HB5 HC7 HO7 HE7 HXX HXY
            go_wp2
            go_roundw
            case rel => exact ⟨m + 1, by go_num, by omega, HR7.out⟩
            case measure => simp [intOf]; omega
          · go_wp2
            go_ret
            exact ⟨rfl, HRA.out.below⟩
end Go.Proofs.Ytcemecclpofhbaa

/- rec: what the law's small says. Own lemmas, no statement. -/
import Derived.Test.YthkmohcdgnldgaaGreatRec13
set_option linter.unusedSimpArgs false
set_option linter.unusedVariables false
namespace Go.Proofs.YthkmohcdgnldgaaGreat
open Go.ChangeShapes Go.WideShapes Go.ChangeAt Go.RowKit

def SmallP (om dn : Nat) (w : World) (e : Ending) (w' : World) : Prop := (∃ b : Bool, e = .returned (.bool b) ∧ (b = true → om ≤ 20 ∧ dn ≤ 20)) ∧ Below w.heap.size w w'
theorem smallP_of {om dn : Nat} {w w' : World} {e : Ending} {b : Bool} (he : e = .returned (.bool b)) (hb : b = true → om ≤ 20 ∧ dn ≤ 20) (y : Below w.heap.size w w') : SmallP om dn w e w' := ⟨⟨b, he, hb⟩, y⟩
set_option maxRecDepth 100000 in
set_option maxHeartbeats 8000000 in
theorem small12_raw (kind : Int) (num : Int) (node : Int) (key : ByteArray) (was : Bool) (old : ByteArray) (prev : Int) (na : Option Addr) (nn : Nat) (nc : Nat) (ra : Option Addr) (rn : Nat) (rc : Nat) (ga : Option Addr) (gn : Nat) (gc : Nat) (oa : Option Addr) (om : Nat) (oc : Nat) (da : Option Addr) (dn : Nat) (dc : Nat) (gs : List ChgV) (os : List OpenV) (ds : List DoneV) (w : World) (h1 : RowsN w 9 ChgV.c (.slice ga gn gc) gs) (h2 : RowsN w 7 OpenV.c (.slice oa om oc) os) (h3 : RowsN w 3 DoneV.c (.slice da dn dc) ds) : Calls Tryz.prog 7 #[.agg #[.int .i64 kind, .int .u64 num, .int .i64 node, .string key, .bool was, .string old, .int .u64 prev, .slice na nn nc, .slice ra rn rc, .slice ga gn gc, .slice oa om oc, .slice da dn dc]] w (SmallP om dn w) := by
  have HG : Hid (RowsN w 9 ChgV.c (.slice ga gn gc) gs) := h1
  have HO : Hid (RowsN w 7 OpenV.c (.slice oa om oc) os) := h2
  have HE : Hid (RowsN w 3 DoneV.c (.slice da dn dc) ds) := h3
  have m1 : gn ≤ 9223372036854775807 := by have h := h1.len.2; unfold maxLen at h; omega
  have m2 : om ≤ 9223372036854775807 := by have h := h2.len.2; unfold maxLen at h; omega
  have m3 : dn ≤ 9223372036854775807 := by have h := h3.len.2; unfold maxLen at h; omega
  clear h1 h2 h3
  have HB : Hid (Blk (w.alloc (.cells #[.int .i64 kind, .int .u64 num, .int .i64 node, .string key, .bool was, .string old, .int .u64 prev, .slice na nn nc, .slice ra rn rc, .slice ga gn gc, .slice oa om oc, .slice da dn dc] 31)) w.heap.size #[.int .i64 kind, .int .u64 num, .int .i64 node, .string key, .bool was, .string old, .int .u64 prev, .slice na nn nc, .slice ra rn rc, .slice ga gn gc, .slice oa om oc, .slice da dn dc] 31) := Blk.new _ _ _
  have HY : Hid (Below w.heap.size w (w.alloc (.cells #[.int .i64 kind, .int .u64 num, .int .i64 node, .string key, .bool was, .string old, .int .u64 prev, .slice na nn nc, .slice ra rn rc, .slice ga gn gc, .slice oa om oc, .slice da dn dc] 31))) := (Below.refl _ _).alloc (Nat.le_refl _) _
  go_enter Tryz.func7, Tryz.ntmps7
  go_upto_region 1 with fail
  generalize w.alloc (.cells #[.int .i64 kind, .int .u64 num, .int .i64 node, .string key, .bool was, .string old, .int .u64 prev, .slice na nn nc, .slice ra rn rc, .slice ga gn gc, .slice oa om oc, .slice da dn dc] 31) = w0 at *
  have z7 : w0.cell? ⟨w.heap.size, 7, none⟩ = some (.slice na nn nc) := HB.out.cell 7
  have z8 : w0.cell? ⟨w.heap.size, 8, none⟩ = some (.slice ra rn rc) := HB.out.cell 8
  have z9 : w0.cell? ⟨w.heap.size, 9, none⟩ = some (.slice ga gn gc) := HB.out.cell 9
  have z10 : w0.cell? ⟨w.heap.size, 10, none⟩ = some (.slice oa om oc) := HB.out.cell 10
  have z11 : w0.cell? ⟨w.heap.size, 11, none⟩ = some (.slice da dn dc) := HB.out.cell 11
  by_cases g0 : 70 < nn
  case pos =>
    go_wp2
    go_ret
    exact smallP_of rfl (by first | (intro h; exact absurd h (by decide)) | (intro _; omega)) HY.out
  by_cases g1 : 35 < gn
  case pos =>
    go_wp2
    go_ret
    exact smallP_of rfl (by first | (intro h; exact absurd h (by decide)) | (intro _; omega)) HY.out
  by_cases g2 : 20 < om
  case pos =>
    go_wp2
    go_ret
    exact smallP_of rfl (by first | (intro h; exact absurd h (by decide)) | (intro _; omega)) HY.out
  by_cases g3 : 20 < dn
  case pos =>
    go_wp2
    go_ret
    exact smallP_of rfl (by first | (intro h; exact absurd h (by decide)) | (intro _; omega)) HY.out
  by_cases g4 : 120 < rn
  case pos =>
    go_wp2
    go_ret
    exact smallP_of rfl (by first | (intro h; exact absurd h (by decide)) | (intro _; omega)) HY.out
  go_wp2
  go_loopw [40] (fun i wr => ∃ k : Nat, i = .int .i64 (k : Int) ∧ k ≤ om ∧ Below w.heap.size w wr ∧ Blk wr w.heap.size #[.int .i64 kind, .int .u64 num, .int .i64 node, .string key, .bool was, .string old, .int .u64 prev, .slice na nn nc, .slice ra rn rc, .slice ga gn gc, .slice oa om oc, .slice da dn dc] 31) (fun i _ => om - (intOf i).toNat)
  case atStart => exact ⟨0, rfl, Nat.zero_le _, HY.out, HB.out⟩
  case round =>
    obtain ⟨k, rfl, hk, y, hb⟩ := hrel
    clear HY HB
    have HY : Hid (Below w.heap.size w wr) := y
    have HB : Hid (Blk wr w.heap.size #[.int .i64 kind, .int .u64 num, .int .i64 node, .string key, .bool was, .string old, .int .u64 prev, .slice na nn nc, .slice ra rn rc, .slice ga gn gc, .slice oa om oc, .slice da dn dc] 31) := hb
    clear y hb
    by_cases hlt : k < om
    · have hkl : k < os.length := by rw [← HO.out.len.1]; exact hlt
      have hi2 : (k : Int) < (om : Int) := by omega
      obtain ⟨ad, had⟩ := RowsN.adr HO.out (by omega)
      subst had
      have HH : Hid (RowsN wr 7 _ (.slice (some ad) _ _) os) := HO.out.below HY.out
      have e0 : wr.cell? (ad.add (k * 7)) = some _ := HH.out.at0 hkl rfl
      have e1 : wr.cell? ⟨(ad.add (k * 7)).block, (ad.add (k * 7)).off + 1, none⟩ = some _ := HH.out.atS hkl 0 rfl
      have e2 : wr.cell? ⟨(ad.add (k * 7)).block, (ad.add (k * 7)).off + 2, none⟩ = some _ := HH.out.atS hkl 1 rfl
      have e3 : wr.cell? ⟨(ad.add (k * 7)).block, (ad.add (k * 7)).off + 3, none⟩ = some _ := HH.out.atS hkl 2 rfl
      have e4 : wr.cell? ⟨(ad.add (k * 7)).block, (ad.add (k * 7)).off + 4, none⟩ = some _ := HH.out.atS hkl 3 rfl
      have e5 : wr.cell? ⟨(ad.add (k * 7)).block, (ad.add (k * 7)).off + 5, none⟩ = some _ := HH.out.atS hkl 4 rfl
      have e6 : wr.cell? ⟨(ad.add (k * 7)).block, (ad.add (k * 7)).off + 6, none⟩ = some _ := HH.out.atS hkl 5 rfl
      generalize os[k] = q at *
      have HY1 : Hid (Below w.heap.size w (wr.alloc (.cells #[.int .u64 q.num, .int .i64 q.node, .int .u64 q.last, .int .u64 q.first, .int .i64 q.count, .bool q.ready, .slice q.ra q.rn q.rc] 45))) := HY.out.alloc HY.out.size _
      have HB1 : Hid (Blk (wr.alloc (.cells #[.int .u64 q.num, .int .i64 q.node, .int .u64 q.last, .int .u64 q.first, .int .i64 q.count, .bool q.ready, .slice q.ra q.rn q.rc] 45)) w.heap.size #[.int .i64 kind, .int .u64 num, .int .i64 node, .string key, .bool was, .string old, .int .u64 prev, .slice na nn nc, .slice ra rn rc, .slice ga gn gc, .slice (some ad) om oc, .slice da dn dc] 31) := HB.out.alloc _
      have HQ1 : Hid (Blk (wr.alloc (.cells #[.int .u64 q.num, .int .i64 q.node, .int .u64 q.last, .int .u64 q.first, .int .i64 q.count, .bool q.ready, .slice q.ra q.rn q.rc] 45)) wr.heap.size #[.int .u64 q.num, .int .i64 q.node, .int .u64 q.last, .int .u64 q.first, .int .i64 q.count, .bool q.ready, .slice q.ra q.rn q.rc] 45) := Blk.new _ _ _
      go_upto_region 6 with fail
      clear e0 e1 e2 e3 e4 e5 e6 HH HY HB
      generalize (wr.alloc (.cells #[.int .u64 q.num, .int .i64 q.node, .int .u64 q.last, .int .u64 q.first, .int .i64 q.count, .bool q.ready, .slice q.ra q.rn q.rc] 45)) = w2 at *
      obtain ⟨b, hbb⟩ : ∃ b, wr.heap.size = b := ⟨_, rfl⟩
      rw [hbb] at HQ1 ⊢
      clear hbb
      have u6 : w2.cell? ⟨b, 6, none⟩ = some (.slice q.ra q.rn q.rc) := HQ1.out.cell 6
      by_cases f0 : 120 < q.rn
      case pos =>
        go_wp2
        go_ret
        exact smallP_of rfl (by first | (intro h; exact absurd h (by decide)) | (intro _; omega)) HY1.out
      go_wp2
      go_roundw
      case rel => exact ⟨k + 1, by go_num, by omega, HY1.out, HB1.out⟩
      case measure => simp [intOf]; omega
    · clear hk
      rename World => wq1
      have z8 : wq1.cell? ⟨w.heap.size, 9, none⟩ = some (.slice ga gn gc) := HB.out.cell 9
      have z9 : wq1.cell? ⟨w.heap.size, 10, none⟩ = some (.slice oa om oc) := HB.out.cell 10
      have z10 : wq1.cell? ⟨w.heap.size, 11, none⟩ = some (.slice da dn dc) := HB.out.cell 11
      go_wp2
      clear hlt
      go_loopw [52] (fun i wr => ∃ k : Nat, i = .int .i64 (k : Int) ∧ k ≤ gn ∧ Below w.heap.size w wr ∧ Blk wr w.heap.size #[.int .i64 kind, .int .u64 num, .int .i64 node, .string key, .bool was, .string old, .int .u64 prev, .slice na nn nc, .slice ra rn rc, .slice ga gn gc, .slice oa om oc, .slice da dn dc] 31) (fun i _ => gn - (intOf i).toNat)
      case atStart => exact ⟨0, rfl, Nat.zero_le _, HY.out, HB.out⟩
      case round =>
        obtain ⟨k, rfl, hk, y, hb⟩ := hrel
        clear HY HB
        have HY : Hid (Below w.heap.size w wr) := y
        have HB : Hid (Blk wr w.heap.size #[.int .i64 kind, .int .u64 num, .int .i64 node, .string key, .bool was, .string old, .int .u64 prev, .slice na nn nc, .slice ra rn rc, .slice ga gn gc, .slice oa om oc, .slice da dn dc] 31) := hb
        clear y hb
        by_cases hlt : k < gn
        · have hkl : k < gs.length := by rw [← HG.out.len.1]; exact hlt
          have hi2 : (k : Int) < (gn : Int) := by omega
          obtain ⟨ad, had⟩ := RowsN.adr HG.out (by omega)
          subst had
          have HH : Hid (RowsN wr 9 _ (.slice (some ad) _ _) gs) := HG.out.below HY.out
          have e0 : wr.cell? (ad.add (k * 9)) = some _ := HH.out.at0 hkl rfl
          have e1 : wr.cell? ⟨(ad.add (k * 9)).block, (ad.add (k * 9)).off + 1, none⟩ = some _ := HH.out.atS hkl 0 rfl
          have e2 : wr.cell? ⟨(ad.add (k * 9)).block, (ad.add (k * 9)).off + 2, none⟩ = some _ := HH.out.atS hkl 1 rfl
          have e3 : wr.cell? ⟨(ad.add (k * 9)).block, (ad.add (k * 9)).off + 3, none⟩ = some _ := HH.out.atS hkl 2 rfl
          have e4 : wr.cell? ⟨(ad.add (k * 9)).block, (ad.add (k * 9)).off + 4, none⟩ = some _ := HH.out.atS hkl 3 rfl
          have e5 : wr.cell? ⟨(ad.add (k * 9)).block, (ad.add (k * 9)).off + 5, none⟩ = some _ := HH.out.atS hkl 4 rfl
          have e6 : wr.cell? ⟨(ad.add (k * 9)).block, (ad.add (k * 9)).off + 6, none⟩ = some _ := HH.out.atS hkl 5 rfl
          have e7 : wr.cell? ⟨(ad.add (k * 9)).block, (ad.add (k * 9)).off + 7, none⟩ = some _ := HH.out.atS hkl 6 rfl
          have e8 : wr.cell? ⟨(ad.add (k * 9)).block, (ad.add (k * 9)).off + 8, none⟩ = some _ := HH.out.atS hkl 7 rfl
          generalize gs[k] = q at *
          have HY1 : Hid (Below w.heap.size w (wr.alloc (.cells #[.int .i64 q.n, .int .i64 q.p.kind, .slice q.ka q.kn q.kc, .slice q.va q.vn q.vc, .slice q.da q.dn q.dc, .int .i64 q.p.root, .int .i64 q.p.next, .int .i64 q.p.size, .int .i64 q.p.idle] 49))) := HY.out.alloc HY.out.size _
          have HB1 : Hid (Blk (wr.alloc (.cells #[.int .i64 q.n, .int .i64 q.p.kind, .slice q.ka q.kn q.kc, .slice q.va q.vn q.vc, .slice q.da q.dn q.dc, .int .i64 q.p.root, .int .i64 q.p.next, .int .i64 q.p.size, .int .i64 q.p.idle] 49)) w.heap.size #[.int .i64 kind, .int .u64 num, .int .i64 node, .string key, .bool was, .string old, .int .u64 prev, .slice na nn nc, .slice ra rn rc, .slice (some ad) gn gc, .slice oa om oc, .slice da dn dc] 31) := HB.out.alloc _
          have HQ1 : Hid (Blk (wr.alloc (.cells #[.int .i64 q.n, .int .i64 q.p.kind, .slice q.ka q.kn q.kc, .slice q.va q.vn q.vc, .slice q.da q.dn q.dc, .int .i64 q.p.root, .int .i64 q.p.next, .int .i64 q.p.size, .int .i64 q.p.idle] 49)) wr.heap.size #[.int .i64 q.n, .int .i64 q.p.kind, .slice q.ka q.kn q.kc, .slice q.va q.vn q.vc, .slice q.da q.dn q.dc, .int .i64 q.p.root, .int .i64 q.p.next, .int .i64 q.p.size, .int .i64 q.p.idle] 49) := Blk.new _ _ _
          go_upto_region 12 with fail
          clear e0 e1 e2 e3 e4 e5 e6 e7 e8 HH HY HB
          generalize (wr.alloc (.cells #[.int .i64 q.n, .int .i64 q.p.kind, .slice q.ka q.kn q.kc, .slice q.va q.vn q.vc, .slice q.da q.dn q.dc, .int .i64 q.p.root, .int .i64 q.p.next, .int .i64 q.p.size, .int .i64 q.p.idle] 49)) = w2 at *
          obtain ⟨b, hbb⟩ : ∃ b, wr.heap.size = b := ⟨_, rfl⟩
          rw [hbb] at HQ1 ⊢
          clear hbb
          have u2 : w2.cell? ⟨b, 2, none⟩ = some (.slice q.ka q.kn q.kc) := HQ1.out.cell 2
          have u3 : w2.cell? ⟨b, 3, none⟩ = some (.slice q.va q.vn q.vc) := HQ1.out.cell 3
          have u4 : w2.cell? ⟨b, 4, none⟩ = some (.slice q.da q.dn q.dc) := HQ1.out.cell 4
          by_cases f0 : 10 < q.kn
          case pos =>
            go_wp2
            go_ret
            exact smallP_of rfl (by first | (intro h; exact absurd h (by decide)) | (intro _; omega)) HY1.out
          by_cases f1 : 10 < q.vn
          case pos =>
            go_wp2
            go_ret
            exact smallP_of rfl (by first | (intro h; exact absurd h (by decide)) | (intro _; omega)) HY1.out
          by_cases f2 : 10 < q.dn
          case pos =>
            go_wp2
            go_ret
            exact smallP_of rfl (by first | (intro h; exact absurd h (by decide)) | (intro _; omega)) HY1.out
          go_wp2
          go_roundw
          case rel => exact ⟨k + 1, by go_num, by omega, HY1.out, HB1.out⟩
          case measure => simp [intOf]; omega
        · clear hk
          rename World => wq2
          have z8 : wq2.cell? ⟨w.heap.size, 9, none⟩ = some (.slice ga gn gc) := HB.out.cell 9
          have z9 : wq2.cell? ⟨w.heap.size, 10, none⟩ = some (.slice oa om oc) := HB.out.cell 10
          have z10 : wq2.cell? ⟨w.heap.size, 11, none⟩ = some (.slice da dn dc) := HB.out.cell 11
          go_wp2
          clear hlt
          go_loopw [79] (fun i wr => ∃ k : Nat, i = .int .i64 (k : Int) ∧ k ≤ dn ∧ Below w.heap.size w wr ∧ Blk wr w.heap.size #[.int .i64 kind, .int .u64 num, .int .i64 node, .string key, .bool was, .string old, .int .u64 prev, .slice na nn nc, .slice ra rn rc, .slice ga gn gc, .slice oa om oc, .slice da dn dc] 31) (fun i _ => dn - (intOf i).toNat)
          case atStart => exact ⟨0, rfl, Nat.zero_le _, HY.out, HB.out⟩
          case round =>
            obtain ⟨k, rfl, hk, y, hb⟩ := hrel
            clear HY HB
            have HY : Hid (Below w.heap.size w wr) := y
            have HB : Hid (Blk wr w.heap.size #[.int .i64 kind, .int .u64 num, .int .i64 node, .string key, .bool was, .string old, .int .u64 prev, .slice na nn nc, .slice ra rn rc, .slice ga gn gc, .slice oa om oc, .slice da dn dc] 31) := hb
            clear y hb
            by_cases hlt : k < dn
            · have hkl : k < ds.length := by rw [← HE.out.len.1]; exact hlt
              have hi2 : (k : Int) < (dn : Int) := by omega
              obtain ⟨ad, had⟩ := RowsN.adr HE.out (by omega)
              subst had
              have HH : Hid (RowsN wr 3 _ (.slice (some ad) _ _) ds) := HE.out.below HY.out
              have e0 : wr.cell? (ad.add (k * 3)) = some _ := HH.out.at0 hkl rfl
              have e1 : wr.cell? ⟨(ad.add (k * 3)).block, (ad.add (k * 3)).off + 1, none⟩ = some _ := HH.out.atS hkl 0 rfl
              have e2 : wr.cell? ⟨(ad.add (k * 3)).block, (ad.add (k * 3)).off + 2, none⟩ = some _ := HH.out.atS hkl 1 rfl
              generalize ds[k] = q at *
              have HY1 : Hid (Below w.heap.size w (wr.alloc (.cells #[.int .u64 q.num, .int .i64 q.node, .slice q.na q.nn q.nc] 51))) := HY.out.alloc HY.out.size _
              have HB1 : Hid (Blk (wr.alloc (.cells #[.int .u64 q.num, .int .i64 q.node, .slice q.na q.nn q.nc] 51)) w.heap.size #[.int .i64 kind, .int .u64 num, .int .i64 node, .string key, .bool was, .string old, .int .u64 prev, .slice na nn nc, .slice ra rn rc, .slice ga gn gc, .slice oa om oc, .slice (some ad) dn dc] 31) := HB.out.alloc _
              have HQ1 : Hid (Blk (wr.alloc (.cells #[.int .u64 q.num, .int .i64 q.node, .slice q.na q.nn q.nc] 51)) wr.heap.size #[.int .u64 q.num, .int .i64 q.node, .slice q.na q.nn q.nc] 51) := Blk.new _ _ _
              go_upto_region 18 with fail
              clear e0 e1 e2 HH HY HB
              generalize (wr.alloc (.cells #[.int .u64 q.num, .int .i64 q.node, .slice q.na q.nn q.nc] 51)) = w2 at *
              obtain ⟨b, hbb⟩ : ∃ b, wr.heap.size = b := ⟨_, rfl⟩
              rw [hbb] at HQ1 ⊢
              clear hbb
              have u2 : w2.cell? ⟨b, 2, none⟩ = some (.slice q.na q.nn q.nc) := HQ1.out.cell 2
              by_cases f0 : 70 < q.nn
              case pos =>
                go_wp2
                go_ret
                exact smallP_of rfl (by first | (intro h; exact absurd h (by decide)) | (intro _; omega)) HY1.out
              go_wp2
              go_roundw
              case rel => exact ⟨k + 1, by go_num, by omega, HY1.out, HB1.out⟩
              case measure => simp [intOf]; omega
            · go_wp2
              go_ret
              exact smallP_of rfl (by first | (intro h; exact absurd h (by decide)) | (intro _; omega)) HY.out
theorem small12_any (x : RecV) (w : World) (h : x.At w) : Calls Tryz.prog 7 #[.agg #[.int .i64 x.kind, .int .u64 x.num, .int .i64 x.node, .string x.key, .bool x.was, .string x.old, .int .u64 x.prev, .slice x.na x.nn x.nc, .slice x.ra x.rn x.rc, .slice x.ga x.gn x.gc, .slice x.oa x.om x.oc, .slice x.da x.dn x.dc]] w (SmallP x.om x.dn w) :=
  small12_raw _ _ _ _ _ _ _ _ _ _ _ _ _ _ _ _ _ _ _ _ _ _ x.gs x.os x.ds w h.pages h.opens h.dones
end Go.Proofs.YthkmohcdgnldgaaGreat

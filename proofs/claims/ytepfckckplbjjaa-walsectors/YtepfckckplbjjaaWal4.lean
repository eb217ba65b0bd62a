/- The log: the sector of a number. Own lemmas, no statement. -/
import Derived.Test.YtepfckckplbjjaaWal3
import Derived.Test.YtepfckckplbjjaaSrcSeg
namespace Go.Proofs.Ytepfckckplbjjaa
open Go.ChangeShapes Go.WideShapes Go.ChangeAt Go.RowKit

/-- What a disk's Read answers. -/
def DSt.got (st : DSt) (i : Nat) : Except Nat (List UInt8) :=
  match st.now[i]? with
    | none => .error 1
    | some (b, t) => if st.down then .error 8 else if t then .error 9 else .ok b
def GotP (w : World) (r : Except Nat (List UInt8)) (e : Ending) (w' : World) : Prop :=
  Below w.heap.size w w' ∧ match r with
    | .ok b => ∃ k, e = .returned (.tuple #[.slice (some ⟨k, 0, none⟩) 512 512, .int .i64 0]) ∧ Src w' (.slice (some ⟨k, 0, none⟩) 512 512) b ∧ b.length = 512
    | .error c => e = .returned (.tuple #[.slice none 0 0, .int .i64 (c : Int)])
theorem read_got (f : Foot) (st : DSt) (i : Nat) (w : World) (h : DiskAt w f st) : Calls Try.prog 34 #[dptr f.g, .int .i64 (i : Int)] w (GotP w (st.got i)) := by
  by_cases hi : i < st.now.length
  · have hg := List.getElem?_eq_getElem hi
    cases hd : st.down with
    | true =>
      refine (read_down f st i w h hi hd).mono ?_
      rintro e w' ⟨rfl, rfl⟩
      unfold GotP DSt.got
      rw [hg, hd]
      exact ⟨Below.refl _ _, rfl⟩
    | false =>
      cases ht : st.now[i].2 with
      | true =>
        refine (read_torn f st i w h hi hd ht).mono ?_
        rintro e w' ⟨rfl, rfl⟩
        unfold GotP DSt.got
        rw [hg, hd, show st.now[i] = (st.now[i].1, true) from Prod.ext rfl ht]
        exact ⟨Below.refl _ _, rfl⟩
      | false =>
        refine (read_ok f st i w h hi hd ht).mono ?_
        rintro e w' ⟨rfl, hB, hb, _⟩
        have hlen : st.now[i].1.length = 512 := h.inv.nows _ (List.getElem_mem hi)
        unfold GotP DSt.got
        rw [hg, hd, show st.now[i] = (st.now[i].1, false) from Prod.ext rfl ht]
        have := Blk.src (k := 512) (c := 512) hB (by omega) (Nat.le_refl _) (by unfold maxLen; omega)
        rw [List.take_of_length_le (by omega)] at this
        exact ⟨hb, _, rfl, this, hlen⟩
  · refine (read_arg f st i w h (by omega)).mono ?_
    rintro e w' ⟨rfl, rfl⟩
    unfold GotP DSt.got
    rw [List.getElem?_eq_none (by omega)]
    exact ⟨Below.refl _ _, rfl⟩

/-- A log on its disk. -/
structure WL (w : World) (g : Nat) (f : Foot) (s : LSt) (st : DSt) : Prop where
  l : LogAt w g f.g s
  d : DiskAt w f st
  ap : ¬ f.has g
  r0 : 0 < s.room
  fit : s.from_ + 2 + s.room ≤ st.now.length
section
variable {w w' : World} {g : Nat} {f : Foot} {s : LSt} {st : DSt}
theorem WL.below (h : WL w g f s st) (hb : Below w.heap.size w w') : WL w' g f s st := ⟨Blk.of h.l (hb.block _ (Blk.lt h.l)), h.d.below hb, h.ap, h.r0, h.fit⟩
theorem WL.bounds (h : WL w g f s st) : s.room < 65536 ∧ s.from_ < 65536 := by have := h.d.len; have := h.fit; have := h.r0; omega
theorem WL.place_lt (h : WL w g f s st) (n : Nat) : s.place n < st.now.length := by
  have := Nat.mod_lt n h.r0
  have := h.fit
  unfold LSt.place
  omega
/-- The sector of a number, if it can be read, and is its. -/
def look (s : LSt) (st : DSt) (n : Nat) : Option Pc := match st.got (s.place n) with
  | .ok b => readPc b n
  | .error _ => none

set_option maxRecDepth 10000 in
set_option maxHeartbeats 2000000 in
theorem piece_any (h : WL w g f s st) (n : Nat) (hn : n < 9223372036854775808) :
    Calls Try.prog 57 #[lptr g, .int .u64 (n : Int)] w fun e w' => e = .returned (.tuple #[pcO n (look s st n), .bool (look s st n).isSome]) ∧ Below w.heap.size w w' := by
  have hb0 : Below w.heap.size w (w.alloc (.cells pcZ 83)).drew := ((Below.refl _ _).alloc (Nat.le_refl _) _).drew
  have h0 := h.below hb0
  have HB0 : Hid (Blk (w.alloc (.cells pcZ 83)).drew w.heap.size pcZ 83) := Blk.new _ _ _
  have c0 : (w.alloc (.cells pcZ 83)).drew.cell? ⟨g, 0, none⟩ = some (.pointer (some ⟨f.g, 0, none⟩)) := Blk.cell h0.l 0
  have hbd := h0.bounds
  have H1 : Hid (Calls _ _ _ _ _) := place_any h0.l n h0.r0 (by omega) (by omega) (by omega)
  have HW0 : Hid (WL (w.alloc (.cells pcZ 83)).drew g f s st) := h0
  have HE0 : Hid (Below w.heap.size w (w.alloc (.cells pcZ 83)).drew) := hb0
  clear h h0 hb0 hbd
  unfold lptr at *
  unfold pcZ at *
  go_enter Try.func57, Try.ntmps57
  go_wp2_with fail
  have y0 := cellX c0
  haveI nA := cls_ext (w.alloc (.cells #[.int .u64 0, .int .u64 0, .bool false, .string ⟨#[]⟩] 83)).drew
  refine wp_region_ext (by kernel_rfl) ?_
  refine wpAnyH_seg (by kernel_rfl) (fun _ _ _ h => h) [0, 1, 2, 3, 4, 5] 7 _ _ _ (Ext.refl _) (by kernel_rfl) ?_
  simp only [opsAt, List.getElem?_toArray, List.getElem?_cons_zero, List.getElem?_cons_succ, List.cons_append, List.nil_append]
  repeat (go_big_quiet_step (fail))
  refine wpQuiet_nil ?_
  clear y0 nA c0
  refine wpAnyH_callE (i := 6) (fuel := 6) 15 rfl (by kernel_rfl) rfl (Ext.refl _) (by kernel_rfl) (by kernel_rfl) H1.out ?_
  rintro e w1 ⟨rfl, hw1⟩
  have hE1 : Below (w.alloc (.cells #[.int .u64 0, .int .u64 0, .bool false, .string ⟨#[]⟩] 83)).drew.heap.size (w.alloc (.cells #[.int .u64 0, .int .u64 0, .bool false, .string ⟨#[]⟩] 83)).drew w1 := by rw [hw1]; exact (Below.refl _ _).drew
  have HW1 : Hid (WL w1 g f s st) := HW0.out.below hE1
  have HB1 : Hid (Blk w1 w.heap.size #[.int .u64 0, .int .u64 0, .bool false, .string ⟨#[]⟩] 83) := HB0.out.of (hE1.block _ HB0.out.lt)
  have HE1 : Hid (Below w.heap.size w w1) := HE0.out.trans (hE1.mono HE0.out.size)
  refine ⟨_, rfl, hE1, ?_⟩
  have H2 : Hid (Calls _ _ _ _ _) := read_got f st (s.place n) w1 HW1.out.d
  clear hE1 hw1 H1 HW0 HE0 HB0
  unfold dptr at H2
  simp only [Act.put, List.setIfInBounds_toArray, List.set_cons_succ, List.set_cons_zero]
  refine wpAnyH_callE (i := 7) (fuel := 5) 16 rfl (by kernel_rfl) rfl (Ext.refl _) (by kernel_rfl) (by kernel_rfl) H2.out ?_
  rintro e w2 ⟨hb2, hgot⟩
  have HB2 : Hid (Blk w2 w.heap.size #[.int .u64 0, .int .u64 0, .bool false, .string ⟨#[]⟩] 83) := HB1.out.of (hb2.block _ HB1.out.lt)
  have HE2 : Hid (Below w.heap.size w w2) := HE1.out.trans (hb2.mono HE1.out.size)
  have hlook : look s st n = match st.got (s.place n) with | .ok b => readPc b n | .error _ => none := rfl
  have hext : Ext w1 w2 := hb2
  have HXT : Hid (Ext w1 w2) := hext
  clear hb2 H2 HW1 HB1 HE1 hext
  have z0 : w2.cell? ⟨w.heap.size, 0, none⟩ = some (.int .u64 0) := HB2.out.cell 0
  have z1 : w2.cell? ⟨w.heap.size, 1, none⟩ = some (.int .u64 0) := HB2.out.cell 1
  have z2 : w2.cell? ⟨w.heap.size, 2, none⟩ = some (.bool false) := HB2.out.cell 2
  have z3 : w2.cell? ⟨w.heap.size, 3, none⟩ = some (.string ⟨#[]⟩) := HB2.out.cell 3
  have f0 := HB2.out.frozen 0
  have f1 := HB2.out.frozen 1
  have f2 := HB2.out.frozen 2
  have f3 := HB2.out.frozen 3
  cases hg : st.got (s.place n) with
  | error cd =>
    rw [hg] at hgot hlook
    have hcd : cd = 1 ∨ cd = 8 ∨ cd = 9 := by
      unfold DSt.got at hg
      split at hg
      · cases hg; exact .inl rfl
      · split at hg
        · cases hg; exact .inr (.inl rfl)
        · split at hg
          · cases hg; exact .inr (.inr rfl)
          · cases hg
    have hne : ((cd : Int) != 0) = true := by simp; omega
    simp only at hgot hlook
    subst hgot
    have HLK : Hid (look s st n = none) := hlook
    clear hlook hg hcd
    refine ⟨_, rfl, HXT.out, ?_⟩
    haveI nB := cls_ext w2
    simp only [Act.put, List.setIfInBounds_toArray, List.set_cons_succ, List.set_cons_zero]
    refine wpAnyH_seg (by kernel_rfl) (fun _ _ _ h => h) [8, 9, 10, 11, 12] 0 _ _ _ (Ext.refl _) (by kernel_rfl) ?_
    simp only [opsAt, List.getElem?_toArray, List.getElem?_cons_zero, List.getElem?_cons_succ, List.cons_append, List.nil_append]
    repeat (go_big_quiet_step (fail))
    refine wpQuiet_nil ?_
    clear nB
    refine wpAnyH_done (by kernel_rfl) (NoPanic.normal ?_) 0
    go_wp2_with fail
    have hb4 := (((HB2.out.set 0 (.int .u64 0)).set 1 (.int .u64 0)).set 2 (.bool false)).set 3 (.string ⟨#[]⟩)
    refine bodyPost_ret (results_pair (ty := 83) rfl _ _ w.heap.size 83 pcZ (.bool false) _ rfl rfl (by simpa [pcZ] using hb4) Try.underlying83 rfl (by kernel_rfl)) rfl ?_
    exact ⟨by rw [HLK.out]; rfl, (((HE2.out.setCell (Nat.le_refl _) _).setCell (Nat.le_refl _) _).setCell (Nat.le_refl _) _).setCell (Nat.le_refl _) _⟩
  | ok b =>
    rw [hg] at hgot hlook
    simp only at hgot hlook
    obtain ⟨k, rfl, hsrc, hlen⟩ := hgot
    have HLK : Hid (look s st n = readPc b n) := hlook
    have H3 : Hid (Calls _ _ _ _ _) := readPiece_any _ _ _ b n w2 hsrc (by omega) hn
    clear hlook hg hsrc hlen
    refine ⟨_, rfl, HXT.out, ?_⟩
    haveI nB := cls_ext w2
    simp only [Act.put, List.setIfInBounds_toArray, List.set_cons_succ, List.set_cons_zero]
    refine wpAnyH_seg (by kernel_rfl) (fun _ _ _ h => h) [8, 9, 10, 11, 12] 0 _ _ _ (Ext.refl _) (by kernel_rfl) ?_
    simp only [opsAt, List.getElem?_toArray, List.getElem?_cons_zero, List.getElem?_cons_succ, List.cons_append, List.nil_append]
    repeat (go_big_quiet_step (fail))
    refine wpQuiet_nil ?_
    clear nB z0 z1 z2 z3 f0 f1 f2 f3
    refine wpAnyH_done (by kernel_rfl) (NoPanic.normal ?_) 0
    go_wp2_with fail
    refine Calls.mono H3.out ?_
    rintro e w3 ⟨rfl, hb3⟩
    have HB3 : Hid (Blk w3 w.heap.size #[.int .u64 0, .int .u64 0, .bool false, .string ⟨#[]⟩] 83) := HB2.out.of (hb3.block _ HB2.out.lt)
    have HE3 : Hid (Below w.heap.size w w3) := HE2.out.trans (hb3.mono HE2.out.size)
    have z0 : w3.cell? ⟨w.heap.size, 0, none⟩ = some (.int .u64 0) := HB3.out.cell 0
    have z1 : w3.cell? ⟨w.heap.size, 1, none⟩ = some (.int .u64 0) := HB3.out.cell 1
    have z2 : w3.cell? ⟨w.heap.size, 2, none⟩ = some (.bool false) := HB3.out.cell 2
    have z3 : w3.cell? ⟨w.heap.size, 3, none⟩ = some (.string ⟨#[]⟩) := HB3.out.cell 3
    have f0 := HB3.out.frozen 0
    have f1 := HB3.out.frozen 1
    have f2 := HB3.out.frozen 2
    have f3 := HB3.out.frozen 3
    clear hb3 H3
    cases hp : readPc b n with
    | none =>
      have HLK2 : Hid (look s st n = none) := by have := HLK.out; rw [hp] at this; exact this
      unfold pcO pcZ
      rw [Option.isSome_none]
      clear hp
      go_wp2_with fail
      have hb4 := (((HB3.out.set 0 (.int .u64 0)).set 1 (.int .u64 0)).set 2 (.bool false)).set 3 (.string ⟨#[]⟩)
      refine bodyPost_ret (results_pair (ty := 83) rfl _ _ w.heap.size 83 pcZ (.bool false) _ rfl rfl (by simpa [pcZ] using hb4) Try.underlying83 rfl (by kernel_rfl)) rfl ?_
      exact ⟨by rw [HLK2.out]; rfl, (((HE3.out.setCell (Nat.le_refl _) _).setCell (Nat.le_refl _) _).setCell (Nat.le_refl _) _).setCell (Nat.le_refl _) _⟩
    | some p =>
      have HLK2 : Hid (look s st n = some p) := by have := HLK.out; rw [hp] at this; exact this
      unfold pcO pcV
      rw [Option.isSome_some]
      clear hp
      go_wp2_with fail
      have hb4 := (((HB3.out.set 0 (.int .u64 (n : Int))).set 1 (.int .u64 (p.life : Int))).set 2 (.bool p.last)).set 3 (.string ⟨p.text.toArray⟩)
      refine bodyPost_ret (results_pair (ty := 83) rfl _ _ w.heap.size 83 #[.int .u64 (n : Int), .int .u64 (p.life : Int), .bool p.last, .string ⟨p.text.toArray⟩] (.bool true) _ rfl rfl (by simpa using hb4) Try.underlying83 rfl (by kernel_rfl)) rfl ?_
      exact ⟨by rw [HLK2.out]; rfl, (((HE3.out.setCell (Nat.le_refl _) _).setCell (Nat.le_refl _) _).setCell (Nat.le_refl _) _).setCell (Nat.le_refl _) _⟩
end
end Go.Proofs.Ytepfckckplbjjaa

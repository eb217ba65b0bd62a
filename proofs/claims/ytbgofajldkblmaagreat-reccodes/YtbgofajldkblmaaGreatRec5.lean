/- slices.Concat of rows of bytes. Own lemmas, no statement. -/
import Derived.Test.YtbgofajldkblmaaGreatPut
import Derived.Test.YtbgofajldkblmaaGreatAppZ
import Derived.Test.YtbgofajldkblmaaGreatRec4
set_option linter.unusedSimpArgs false
set_option linter.unusedVariables false
namespace Go.Proofs.YtbgofajldkblmaaGreat
open Go.ChangeShapes Go.WideShapes Go.ChangeAt Go.RowKit

/-- 'append(nil, make([]byte, n)...)'. -/
theorem wpList_zerosNil {ops : Array Oper} {rest : List Oper} {o : Oper} {a : Act} {Q : Exit → Act → World → Prop} (w : World) (hgd : o.guard = none) (s x : Operand)
    (ho : o.op = .call { callee := .builtin .append, args := #[s, x], argTypes := #[34, 3] })
    (n : Nat) (h0 : 0 < n) (hs : a.eval s = .slice none 0 0) (hx : a.eval x = .int .i64 (n : Int)) (hl : n < 1099511627776)
    (h : ∀ c cur w', n ≤ c → c ≤ maxLen → cur.size = c → w' = w.drew.alloc (.cells cur 5) → wpList Tryz.prog ops Q rest (a.put o.dst (.slice (some ⟨w.heap.size, 0, none⟩) n c)) w') : wpList Tryz.prog ops Q (o :: rest) a w := by
  refine wpList_plain hgd fun K hK => ?_
  obtain ⟨i, hi, hz, hs1, hb1⟩ := info_parts info8
  have ht := Tryz.underlying34
  have htn := Tryz.underlying3
  have hr := Lib.run_append_grow_zeros (P := Tryz.prog) w 34 3 o.type 5 i (.int .u8 0) .i64 .i64 ht htn hi hz none 0 0 [] (run_firstCells_none _ _ _ _ _) n h0 (by omega) (by omega) (by omega) (by rw [hb1]; omega) (growslice_fits (by omega) (by rw [hb1]; omega))
  simp only [Nat.zero_add] at hr
  have hge := grownCap_ge w n 0 5
  have hcm2 : grownCap w n 0 5 ≤ maxLen := grownCap_le_maxLen w n 0 5 (by unfold maxLen; omega)
  unfold Oper.wp execOp
  simp only [ho, resolve, invoke, builtin, Sem.run_bind, Sem.run_pure, Result.andThen_ok, List.map_toArray, List.map_cons, List.map_nil, hs, hx, hr]
  refine hK _ _ (h _ _ _ hge hcm2 ?_ rfl)
  rw [zeroCells_bv, zeroCells_bv]
  simp only [Array.size_append, List.size_toArray, bv_length, List.length_replicate, List.length_nil]
  omega

theorem grow_any (n : Nat) (w : World) (hn : n < 1000000000000) :
    Calls Tryz.prog 42 #[.slice none 0 0, .int .i64 (n : Int)] w fun e w' => ∃ v, e = .returned v ∧ Own w' w.heap.size v [] ∧ Below w.heap.size w w' := by
  go_enter Tryz.func42, Tryz.ntmps42
  by_cases h0 : n = 0
  · subst h0
    go_wp2
    go_ret
    exact ⟨_, rfl, Own.nil _ _, Below.refl _ _⟩
  · have hp1 : 0 < n := by omega
    have hp2 : (0 : Int) < (n : Int) := by omega
    go_wp2_with (at_builtin; refine wpList_zerosNil w rfl _ _ rfl n hp1 rfl rfl (by omega) ?_)
    intro c cur w' hc hcm hcs hw
    have HO : Hid (Own w' w.heap.size (.slice (some ⟨w.heap.size, 0, none⟩) 0 c) []) := by
      refine ⟨rfl, .inr ⟨w.heap.size, c, cur, rfl, Nat.le_refl _, ?_, Nat.zero_le _, hcm, by omega, rfl⟩⟩
      rw [hw]
      exact heap_alloc_new w.drew _
    have HB : Hid (Below w.heap.size w w') := by rw [hw]; exact (Below.refl _ _).drew.alloc (Nat.le_refl _) _
    clear hw hcs
    go_wp2
    go_ret
    exact ⟨_, rfl, HO.out, HB.out⟩

theorem below_allocR {W : World} (o : Obj) : Below W.heap.size W (W.alloc o) := (Below.refl _ _).alloc (Nat.le_refl _) _
/-- A row of rows of bytes. -/
def RowB (W : World) (ad : Addr) (ls : List (List UInt8)) : Prop := ∀ i l, ls[i]? = some l → ∃ ao n c, W.cell? (ad.add i) = some (.slice ao n c) ∧ Src W (.slice ao n c) l
theorem RowB.below {W W' : World} {ad : Addr} {ls : List (List UInt8)} (h : RowB W ad ls) (hb : Below W.heap.size W W') : RowB W' ad ls := fun i l hl => by
  obtain ⟨ao, n, c, h1, h2⟩ := h i l hl
  exact ⟨ao, n, c, (Below.cell hb (World.block_lt_of_cell? W _ h1)).trans h1, h2.below hb⟩
theorem flat_take {ls : List (List UInt8)} {k : Nat} (h : k < ls.length) : (ls.take (k + 1)).flatten = join (ls.take k).flatten ls[k] := by
  rw [List.take_succ_eq_append_getElem h, List.flatten_append]
  simp [join]
theorem flat_le {ls : List (List UInt8)} (k : Nat) : (ls.take k).flatten.length ≤ ls.flatten.length := by
  have : ls.flatten = (ls.take k).flatten ++ (ls.drop k).flatten := by rw [← List.flatten_append, List.take_append_drop]
  rw [this]; simp
set_option maxHeartbeats 2000000 in
theorem concat_any (ad : Addr) (c : Nat) (ls : List (List UInt8)) (w : World) (hr : RowB w ad ls) (hl : 0 < ls.length ∧ ls.length ≤ 1000) (hf : ls.flatten.length < 100000000000) :
    Calls Tryz.prog 14 #[.slice (some ad) ls.length c] w fun e w' => ∃ v, e = .returned v ∧ Own w' w.heap.size v ls.flatten ∧ Below w.heap.size w w' := by
  have HR : Hid (RowB w ad ls) := hr
  have HT : Hid (∀ k, (ls.take k).flatten.length < 100000000000) := fun k => Nat.lt_of_le_of_lt (flat_le k) hf
  obtain ⟨n, hn⟩ : ∃ n, ls.length = n := ⟨_, rfl⟩
  have HN : Hid (ls.length = n) := hn
  have h1000 : n ≤ 1000 := by omega
  rw [hn]
  clear hr hn hf hl
  go_enter Tryz.func14, Tryz.ntmps14
  go_wp2
  go_loopw [3, 11] (fun s i wr => ∃ k : Nat, i = .int .i64 k ∧ k ≤ n ∧ s = .int .i64 ((ls.take k).flatten.length : Int) ∧ w = wr) (fun _ i _ => n - (intOf i).toNat)
  case atStart => exact ⟨0, rfl, Nat.zero_le _, by simp, rfl⟩
  case round =>
    obtain ⟨k, rfl, hk, rfl, rfl⟩ := hrel
    by_cases hlt : k < n
    · have hkl : k < ls.length := by rw [HN.out]; exact hlt
      obtain ⟨ao, m, cc, y1, y2⟩ := HR.out k _ (List.getElem?_eq_getElem hkl)
      have hm : m = ls[k].length := y2.at.1
      have HS : Hid ((ls.take (k + 1)).flatten.length = (ls.take k).flatten.length + m) := by show _ = _; rw [flat_take hkl, hm]; simp [join]
      have hb1 := HT.out (k + 1)
      rw [HS.out] at hb1
      have hi2 : (k : Int) < (n : Int) := by omega
      clear hm y2
      generalize (ls.take k).flatten.length = s at *
      go_wp2
      go_roundw
      case rel => exact ⟨k + 1, by go_num, hlt, by rw [HS.out]; go_num, trivial⟩
      case measure => simp [intOf]; omega
    · have hkn : k = n := by omega
      have hb1 := HT.out k
      have HG : Hid (Calls Tryz.prog 42 #[.slice none 0 0, .int .i64 ((ls.take k).flatten.length : Int)] w _) := grow_any _ w (by omega)
      clear hkn hk
      generalize (ls.take k).flatten.length = s at *
      go_wp2_with fail
      refine HG.out.mono ?_
      rintro e w1 ⟨v1, rfl, ho, y⟩
      have HO : Hid (Own w1 w.heap.size v1 []) := ho
      have HY : Hid (Below w.heap.size w w1) := y
      clear ho y HG
      go_wp2
      go_loopw [6, 27] (fun v i wr => ∃ k : Nat, i = .int .i64 k ∧ k ≤ n ∧ Own wr w.heap.size v (ls.take k).flatten ∧ Below w.heap.size w wr) (fun _ i _ => n - (intOf i).toNat)
      case atStart => exact ⟨0, rfl, Nat.zero_le _, by simpa using HO.out, HY.out⟩
      case round =>
        obtain ⟨k, rfl, hk, ho, y⟩ := hrel
        clear HO HY
        have HO : Hid (Own wr w.heap.size _ (ls.take k).flatten) := ho
        have HY : Hid (Below w.heap.size w wr) := y
        clear ho y
        by_cases hlt : k < n
        · have hkl : k < ls.length := by rw [HN.out]; exact hlt
          obtain ⟨ao, m, cc, y1, y2⟩ := (HR.out.below HY.out) k _ (List.getElem?_eq_getElem hkl)
          have HSR : Hid (Src wr (.slice ao m cc) ls[k]) := y2
          have HS : Hid ((ls.take (k + 1)).flatten = join (ls.take k).flatten ls[k]) := flat_take hkl
          have HLB : Hid ((ls.take k).flatten.length + ls[k].length < 1099511627776) := by
            have := HT.out (k + 1)
            rw [HS.out, show (join (ls.take k).flatten ls[k]).length = (ls.take k).flatten.length + ls[k].length by unfold join; rw [List.length_append]] at this
            show _ < _
            omega
          have hi2 : (k : Int) < (n : Int) := by omega
          have HSZ : Hid (w.heap.size ≤ wr.heap.size) := HY.out.size
          clear y2
          generalize ls[k] = l at *
          go_wp2_with (at_builtin; refine wpList_join wr rfl _ _ rfl w.heap.size _ (ls.take k).flatten l HO.out rfl _ HSR.out rfl HLB.out HSZ.out ?_)
          intro v' w' ho hg _
          have HO2 : Hid (Own w' w.heap.size v' (ls.take (k + 1)).flatten) := by rw [HS.out]; exact ho
          have HY2 : Hid (Below w.heap.size w w') := HY.out.grown hg HSZ.out (fun g e => (World.ownsRow.lt HO.out g e).1)
          clear ho hg
          go_wp2
          go_roundw
          case rel => exact ⟨k + 1, by go_num, hlt, HO2.out, HY2.out⟩
          case measure => simp [intOf]; omega
        · have HE : Hid ((ls.take k).flatten = ls.flatten) := by show _ = _; rw [List.take_of_length_le (by rw [HN.out]; omega)]
          rw [HE.out] at HO
          clear hk
          go_wp2
          go_ret
          exact ⟨_, rfl, HO.out, HY.out⟩
end Go.Proofs.YtbgofajldkblmaaGreat

/- 'append(b, make([]byte, n)...)', b the call's own. Own lemmas, no statement. -/
import Derived.Test.YthkmohcdgnldgaaGreatSrc
import Derived.Lib.AppendZerosOnto
import Derived.Below
namespace Go.Proofs.YthkmohcdgnldgaaGreat
open Go.ChangeShapes Go.WideShapes Go.ChangeAt Go.RowKit

theorem zeroCells_bv (n : Nat) : Builtin.zeroCells (Value.int .u8 0).cells n = (bv (List.replicate n 0)).toArray := by
  apply Array.ext'
  rw [show (Value.int IntKind.u8 0).cells = #[.int .u8 0] from rfl]
  simp only [Builtin.zeroCells, Array.toList_map, Array.toList_range, bv, List.map_replicate]
  apply List.ext_getElem
  · simp
  · intro i h1 h2
    simp [Nat.mod_one]

theorem run_zeros_own (w : World) (ty : TypeId) (B : Nat) (v : Value) (l : List UInt8) (n : Nat) (hown : Own w B v l) (hv : v ≠ .slice none 0 0) (hl : l.length + n < 1099511627776) (hB : B ≤ w.heap.size) :
    ∃ v' w', (Builtin.append_ #[34, 3] ty #[v, .int .i64 (n : Int)]).run Tryz.prog w = .ok v' w' ∧ Own w' B v' (l ++ List.replicate n 0) ∧ w.grownBy w' v.ownBlock := by
  obtain ⟨i, hi, hz, hs1, hb1⟩ := info_parts info8
  have ht := Tryz.underlying34
  have htn := Tryz.underlying3
  have hw : IntKind.i64.wrap (n : Int) = n := by rw [IntKind.wrap_i64]; omega
  have hneg : ¬ ((n : Int) < 0) := by omega
  have h48i : ¬ (281474976710656 < (n : Int) * (i.bytes : Int)) := by rw [hb1]; omega
  have hxs := hown.1
  have hlenB : (bv (l ++ List.replicate n 0)).length = (l ++ List.replicate n 0).length * 1 := by rw [bv_length]; omega
  have hlen2 : (l ++ List.replicate n 0).length = l.length + n := by simp
  rcases hown.2 with ⟨e, _⟩ | ⟨g, cap, cur, rfl, hbg, hg, hnc, hcm, hcs, htake⟩
  · exact absurd e hv
  by_cases h0 : n = 0
  · subst h0
    refine ⟨.slice (some ⟨g, 0, none⟩) l.length cap, w, ?_, by simpa using hown, World.grownBy.refl _ _⟩
    simp [Builtin.append_, run_underlying ht, run_underlying htn, sizeOf, typeInfo, hi, asInt, asIntOf, hnc, storeCells, IntKind.wrap_i64]
  · have hns : ¬ (n * i.size = 0) := by rw [hs1]; omega
    by_cases hroom : l.length + n ≤ cap
    · have hst := run_storeCells_at Tryz.prog g (l.length * i.size) 5 (bv (List.replicate n 0)) 0 cur w hg (by rw [bv_length, List.length_replicate, hs1, hcs]; omega) (bv_one _)
      simp only [Nat.add_zero] at hst
      refine ⟨.slice (some ⟨g, 0, none⟩) (l.length + n) cap, w.setRow g (cur.toList.take (l.length * i.size) ++ bv (List.replicate n 0) ++ cur.toList.drop (l.length * i.size + (bv (List.replicate n 0)).length)).toArray, ?_, ?_, ?_⟩
      rotate_left
      · unfold Own
        rw [hlen2]
        refine ⟨by rw [bv_length, hlen2]; omega, .inr ⟨g, cap, (cur.toList.take (l.length * i.size) ++ bv (List.replicate n 0) ++ cur.toList.drop (l.length * i.size + (bv (List.replicate n 0)).length)).toArray, rfl, hbg, setRow_heap w g cur _ 5 _ hg, hroom, hcm, ?_, ?_⟩⟩
        · simp only [List.size_toArray, List.length_append, List.length_take, List.length_drop, Array.length_toList, bv_length, List.length_replicate, hs1]
          omega
        · rw [hs1, htake, bv_append]
          have hx : (l.length + n) * 1 = (bv l ++ bv (List.replicate n 0)).length := by rw [List.length_append, bv_length, bv_length, List.length_replicate]; omega
          rw [hx]
          exact List.take_left
      · exact ⟨rfl, rfl, rfl, by simp, fun k _ hk => setRow_other w g k _ (fun e => hk (by simp [Value.ownBlock, e]))⟩
      · simp [Builtin.append_, run_underlying ht, run_underlying htn, sizeOf, typeInfo, zeroValue, hi, hz, asInt, asIntOf, hw, hroom, hneg, hns, h48i, zeroCells_bv, Addr.add_lit, hst]
    · have hold := run_firstCells_some (P := Tryz.prog) w.drew i.size l.length ⟨g, 0, none⟩ l.length cap (bv l) (by rw [bv_length, hs1]; omega) (fun j u hu => World.ownsRow.cells hown rfl j u hu)
      have hr := Lib.run_append_grow_zeros (P := Tryz.prog) w 34 3 ty 5 i (.int .u8 0) .i64 .i64 ht htn hi hz (some ⟨g, 0, none⟩) l.length cap (bv l) hold n (by omega) (by omega) (by omega) (by omega) (by rw [hb1]; omega) (growslice_fits (by omega) (by rw [hb1]; omega))
      have hge := grownCap_ge w (l.length + n) cap 5
      have hcm2 : grownCap w (l.length + n) cap 5 ≤ maxLen := grownCap_le_maxLen w (l.length + n) cap 5 (by unfold maxLen; omega)
      refine ⟨_, _, hr, ?_, ⟨rfl, rfl, rfl, by simp, fun k hk _ => Below.heap_alloc w.drew _ k hk⟩⟩
      unfold Own
      rw [hlen2]
      refine ⟨by rw [bv_length, hlen2]; omega, .inr ⟨w.heap.size, _, _, rfl, hB, heap_alloc_new w.drew _, hge, hcm2, ?_, ?_⟩⟩
      · rw [zeroCells_bv, zeroCells_bv]
        simp only [Array.size_append, List.size_toArray, bv_length, List.length_replicate]
        omega
      · rw [zeroCells_bv, bv_append]
        simp only [Array.toList_append]
        have hx : (l.length + n) * 1 = (bv l ++ bv (List.replicate n 0)).length := by rw [List.length_append, bv_length, bv_length, List.length_replicate]; omega
        rw [hx]
        exact List.take_left
end Go.Proofs.YthkmohcdgnldgaaGreat

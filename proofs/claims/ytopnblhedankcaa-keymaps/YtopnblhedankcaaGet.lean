/- The Go text of key.Map's Get. Own lemmas, no statement. -/
import Derived.Test.YtopnblhedankcaaMaps
namespace Go.Proofs.Ytopnblhedankcaa
open Go.ChangeShapes Go.WideShapes Go.ChangeAt Go.RowKit

set_option maxHeartbeats 1000000 in
theorem get_any (ao : Option Addr) (n c : Nat) (m : List KV) (k : ByteArray) (w : World) (hp : Pairs w (.slice ao n c) m) (hr : Rising m) (hn : m.length ≤ 4611686018427387904) :
    Calls Try.prog 34 #[.slice ao n c, .string k] w fun e w' => e = .returned (.tuple #[.string ((getK k m).getD ByteArray.empty), .bool (getK k m).isSome]) ∧ Ext w w' := by
  obtain ⟨rfl, hc, hm, h3⟩ := hp.at
  unfold maxLen at hm
  have HG : Hid (getK k m = if hasK k m then (m[idx k m]?).map (·.2) else none) := getK_at k m
  have hl := hasK_lt k m
  have HF : Hid (∀ W, Pairs W (.slice ao m.length c) m → Calls Try.prog 42 #[.slice ao m.length c, .string k] W fun e w' => e = .returned (.tuple #[.int .i64 (idx k m : Nat), .bool (hasK k m)]) ∧ Ext W w') := fun W hW => find_any ao m.length c m k W hW hr hn
  have HP : Hid (Pairs w (.slice ao m.length c) m) := hp
  have H3 : Hid (PairsAt w ao c m) := h3
  clear hp hr h3
  generalize idx k m = I at *
  generalize hasK k m = B at *
  cases B with
  | true =>
    have hI := hl rfl
    clear hl
    have HG' : Hid (getK k m = some m[I].2) := by
      show getK k m = _
      rw [HG.out, if_pos rfl, List.getElem?_eq_getElem hI]; rfl
    clear HG
    obtain ⟨ad, rfl⟩ : ∃ ad, ao = some ad := by
      cases ao with
      | none => have := (H3.out.1 rfl).1; subst this; simp at hI
      | some ad => exact ⟨ad, rfl⟩
    have H4 : Hid (w.cell? (ad.add (I * 2 + 1)) = some (.string m[I].2)) := H3.out.2 ad rfl (I * 2 + 1) _ (pv_at m I hI).2
    go_enter Try.func34, Try.ntmps34
    go_wp2_with fail
    refine (HF.out w HP.out).mono ?_
    rintro e w2 ⟨rfl, hE2⟩
    have hcell := cell_next ((Below.cell hE2 (cell_lt H4.out)).trans H4.out)
    have HE : Hid (Ext w w2) := hE2
    clear hE2
    go_wp2
    go_ret2
    exact ⟨by rw [HG'.out]; rfl, HE.out⟩
  | false =>
    have HG' : Hid (getK k m = none) := HG.out
    clear HG hl
    go_enter Try.func34, Try.ntmps34
    go_wp2_with fail
    refine (HF.out w HP.out).mono ?_
    rintro e w2 ⟨rfl, hE2⟩
    have HE : Hid (Ext w w2) := hE2
    clear hE2
    go_wp2
    go_ret2
    exact ⟨by rw [HG'.out]; rfl, HE.out⟩
end Go.Proofs.Ytopnblhedankcaa

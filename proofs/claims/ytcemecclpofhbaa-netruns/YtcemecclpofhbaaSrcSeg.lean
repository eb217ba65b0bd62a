/- Bytes that came in; as texts, in a class of worlds; pieces of a row of bytes. Own lemmas, no statement. -/
import Derived.Test.YtcemecclpofhbaaSrc
import Derived.Test.YtcemecclpofhbaaSeg
import Derived.Test.YtcemecclpofhbaaBlk
namespace Go.Proofs.Ytcemecclpofhbaa
open Go.ChangeShapes Go.WideShapes Go.ChangeAt Go.RowKit

/-- Bytes that came in can be read. -/
theorem isRow_src {w : World} {a : Option Addr} {len cap : Nat} {zs : List Int} (h : IsRow .u8 w a len cap zs) : ∃ l : List UInt8, Src w (.slice a len cap) l ∧ l.length = len := by
  rcases h with ⟨rfl, rfl, rfl, rfl⟩ | ⟨x, rfl, hl, hm, hz, hcell, hwz⟩
  · exact ⟨[], Src.nil w, rfl⟩
  · have hlen : ((zs.take len).map fun n => UInt8.ofNat n.toNat).length = len := by simp; omega
    refine ⟨(zs.take len).map fun n => UInt8.ofNat n.toNat, ⟨some x, cap, by rw [hlen], by rw [hlen]; exact hl, hm, fun h => (by cases h), ?_⟩, hlen⟩
    intro ad had j u hu
    cases had
    have hj : j < len := by
      have := (List.getElem?_eq_some_iff.1 hu).1
      rw [bv_length, hlen] at this; exact this
    rw [hcell j (by omega)]
    have hjz : j < zs.length := by omega
    have hb := bounds_u8 (hwz zs[j] (List.getElem_mem _))
    simp [bv, hj, hjz] at hu
    rw [← hu]
    simp only [List.getD, List.getElem?_eq_getElem hjz, Option.getD_some]
    congr 2
    have : (zs[j].toNat : Int) = zs[j] := by omega
    omega

theorem Src.strE {W0 : World} {v : Value} {l : List UInt8} (h : Src W0 v l) : ∀ s : Cls (Ext W0), (convert 28 9 v).run Try.prog s.wd = .ok (.string ⟨l.toArray⟩) s.wd := fun s => (h.below s.ok).str


/-- The first bytes of a row that is known whole. -/
theorem Blk.src {w : World} {b k c : Nat} {l : List UInt8} (h : Blk w b (bv l).toArray 5) (hk : k ≤ l.length) (hc : k ≤ c) (hm : c ≤ maxLen) : Src w (.slice (some ⟨b, 0, none⟩) k c) (l.take k) := by
  have hl : (l.take k).length = k := by simp; omega
  refine ⟨some ⟨b, 0, none⟩, c, by rw [hl], by omega, hm, fun e => (by cases e), fun ad e j u hu => ?_⟩
  cases e
  rw [Addr.add_mid, Nat.zero_add, h.cell, List.getElem?_toArray]
  unfold bv at hu ⊢
  rw [List.map_take, List.getElem?_take] at hu
  split at hu
  · exact hu
  · cases hu
end Go.Proofs.Ytcemecclpofhbaa

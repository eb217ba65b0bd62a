/- The law's own bytes: what it comes to. Own lemmas, no statement. -/
import Derived.Test.YthkmohcdgnldgaaGreatPg8
import Derived.Deep.Cut
namespace Go.Proofs.YthkmohcdgnldgaaGreat
open Go.ChangeShapes Go.WideShapes Go.ChangeAt Go.RowKit

theorem txt_any (v : Value) (l : List UInt8) (s : ByteArray) (w : World) (hv : Src w v l) (hl : l.length + s.size < 800000000000) : Calls Tryz.prog 27 #[v, .string s] w (BytesP w (l ++ txt s)) := by
  obtain ⟨ao, c, rfl⟩ := hv.form
  refine (text_any ao _ c l s w hv (by omega)).mono ?_
  rintro e w1 ⟨g, cap, rfl, hown, hb⟩
  refine ⟨_, rfl, ?_, hb⟩
  have := hown.src
  simpa [join, txt, List.append_assoc] using this
theorem num_put (v : Value) (l : List UInt8) (N : Nat) (w : World) (hv : Src w v l) (hN : N < 18446744073709551616) (hl : l.length < 800000000000) : Calls Tryz.prog 28 #[v, .int .u64 (N : Int)] w (BytesP w (l ++ enc N)) := by
  obtain ⟨ao, c, rfl⟩ := hv.form
  refine (put_any ao _ c l N w hv hN (by omega)).mono ?_
  rintro e w1 ⟨g, cap, rfl, hown, hb⟩
  exact ⟨_, rfl, hown.src, hb⟩

end Go.Proofs.YthkmohcdgnldgaaGreat

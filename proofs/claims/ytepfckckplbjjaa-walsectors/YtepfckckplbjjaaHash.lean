/- A key's number: what the Go text of key.Hash comes to, for every text. Conditions: none but the form's own. -/
import Derived.Test.YtepfckckplbjjaaRows
import Derived.WalkKit
import Derived.WalkLawsBesides
import Derived.ProofKit
import Derived.OpenShut
namespace Go.Proofs.Ytepfckckplbjjaa
open Go.ChangeShapes Go.WideShapes Go.ChangeAt Go.RowKit

/-- One byte laid over the number so far. -/
def hstep (h : Nat) (c : UInt8) : Nat := ((h ^^^ c.toNat) * 1099511628211) % 18446744073709551616
def hashL (l : List UInt8) : Nat := l.foldl hstep 14695981039346656037

theorem hashL_snoc (l : List UInt8) (c : UInt8) : hashL (l ++ [c]) = hstep (hashL l) c := by
  unfold hashL
  rw [List.foldl_append, List.foldl_cons, List.foldl_nil]

theorem hashL_lt (l : List UInt8) : hashL l < 18446744073709551616 := by
  rcases List.eq_nil_or_concat l with rfl | ⟨l', c, rfl⟩
  · show (14695981039346656037 : Nat) < 18446744073709551616; decide
  · rw [List.concat_eq_append, hashL_snoc]; exact Nat.mod_lt _ (by decide)

/-- .. as the walk writes it. -/
theorem hstep_walk (h : Nat) (c : UInt8) (hh : h < 18446744073709551616) :
    IntKind.u64.wrap (bits BinOp.xor IntKind.u64 (h : Int) (IntKind.u64.wrap ↑c.toNat) * 1099511628211) = (hstep h c : Int) := by
  have hc : c.toNat < 256 := c.toNat_lt
  rw [show IntKind.u64.wrap (c.toNat : Int) = ((c.toNat : Nat) : Int) from by rw [IntKind.wrap_u64]; omega, bits_xor_u64_nat _ _ hh (by omega), IntKind.wrap_u64, hstep]
  rw [Int.natCast_emod, Int.natCast_mul]
  rfl

theorem take_snoc (s : ByteArray) (k : Nat) (h : k < s.size) : s.data.toList.take (k + 1) = s.data.toList.take k ++ [s[k]] := by
  rw [List.take_succ_eq_append_getElem (by simpa using h)]; rfl

theorem ret_int {k : IntKind} {a b : Int} (h : a = b) : Ending.returned (.int k a) = .returned (.int k b) := by rw [h]

theorem ret_bool {a b : Bool} (h : a = b) : Ending.returned (.bool a) = .returned (.bool b) := by rw [h]

theorem hash_a : hashL [97] = 12638187200555641996 := by decide +kernel
theorem hash_none : hashL [] = 14695981039346656037 := rfl

end Go.Proofs.Ytepfckckplbjjaa

/-
  No cell of these rows narrows 'for every input' (looked for: loops, veiled, ifaces, maps, wideKeys, modest, calm, conditions, laid).
  DERIVED. THE GIVEN ROWS OF THIS SEAT. 12 by the template 'for every input the law returns true; each argument reads behind the call as it read before'; 0 by the template 'total and deterministic' (their statements: YtopnblhedankcaaTotals.lean).
  GIVEN WITH THE SEED: the statements are not yours to turn. If you find one false, say at which input.
  Laid BY PROGRAM, IN A SANDBOX (cutbox-rows.mjs): the forced cells as the released guide's own fill.sh prints them over the translation dcb8d2bba34c309d… (all of the seat's roots in one cut). By AI agents, Wed Nov 11 2026. No macro, syntax, notation, axiom, sorry.
-/
import Derived.Test.YtopnblhedankcaaChecked
import GoSem.Claim
import GoSem.ClaimJoined
import GoSem.ClaimMapViews
import Derived.JoinedTies
import Derived.KernelRfl
namespace Go.Proofs.Ytopnblhedankcaa
/- THE CELL 'sum', in the pinned program and in every row, IS THE sha256 OF THE DUMP (.gsa) THAT YtopnblhedankcaaProg.lean LOADS. Nothing in Lean hashes anything: it is a label: what it is worth is what the hold of that sum in a sandbox is worth. -/
noncomputable def Try.pinned : Pinned := { name := "ytopnblhedankcaa", sum := "dcb8d2bba34c309d9bb6716b9caebbe6f5e201c7c40b68922f001275847b88c5", checked := Try.checked }
namespace Rows
def none {H : Type} : Left H := { results := [], args := [] }

/-- 'dockmasterlaw01.NumPuts': WHATEVER THE INPUT: true; the input reads as it did. -/
def numPutsSpec : ChangeSpec := { name := "numPuts", fn := fun _ => fun
  | [d1, d2, d3] => { results := [.lit (.bool true)], args := [d1, d2, d3] }
  | _ => none }
def numPutsRow : OpenClaim := { program := "ytopnblhedankcaa", sum := "dcb8d2bba34c309d9bb6716b9caebbe6f5e201c7c40b68922f001275847b88c5", func := "dockmaster/dockmasterlaw01.NumPuts", spec := "numPuts", apart := false }
def NumPutsSaid : Prop := numPutsRow.holds Try.pinned (OpenSpec.ofChange numPutsSpec)

/-- ITS FALSE NEIGHBOUR: 'it returns false'. Refute it at one input. -/
def numPutsWrong : ChangeSpec := { name := "numPuts", fn := fun _ => fun
  | [d1, d2, d3] => { results := [.lit (.bool false)], args := [d1, d2, d3] }
  | _ => none }
def NumPutsWrongFalsely : Prop := numPutsRow.holds Try.pinned (OpenSpec.ofChange numPutsWrong)

/-- 'dockmasterlaw01.NumTexts': WHATEVER THE INPUT: true; the input reads as it did. -/
def numTextsSpec : ChangeSpec := { name := "numTexts", fn := fun _ => fun
  | [d1, d2] => { results := [.lit (.bool true)], args := [d1, d2] }
  | _ => none }
def numTextsRow : OpenClaim := { program := "ytopnblhedankcaa", sum := "dcb8d2bba34c309d9bb6716b9caebbe6f5e201c7c40b68922f001275847b88c5", func := "dockmaster/dockmasterlaw01.NumTexts", spec := "numTexts", apart := false }
def NumTextsSaid : Prop := numTextsRow.holds Try.pinned (OpenSpec.ofChange numTextsSpec)

/-- ITS FALSE NEIGHBOUR: 'it returns false'. Refute it at one input. -/
def numTextsWrong : ChangeSpec := { name := "numTexts", fn := fun _ => fun
  | [d1, d2] => { results := [.lit (.bool false)], args := [d1, d2] }
  | _ => none }
def NumTextsWrongFalsely : Prop := numTextsRow.holds Try.pinned (OpenSpec.ofChange numTextsWrong)

/-- 'dockmasterlaw01.NumTids': WHATEVER THE INPUT: true; the input reads as it did. -/
def numTidsSpec : ChangeSpec := { name := "numTids", fn := fun _ => fun
  | [d] => { results := [.lit (.bool true)], args := [d] }
  | _ => none }
def numTidsRow : OpenClaim := { program := "ytopnblhedankcaa", sum := "dcb8d2bba34c309d9bb6716b9caebbe6f5e201c7c40b68922f001275847b88c5", func := "dockmaster/dockmasterlaw01.NumTids", spec := "numTids", apart := false }
def NumTidsSaid : Prop := numTidsRow.holds Try.pinned (OpenSpec.ofChange numTidsSpec)

/-- ITS FALSE NEIGHBOUR: 'it returns false'. Refute it at one input. -/
def numTidsWrong : ChangeSpec := { name := "numTids", fn := fun _ => fun
  | [d] => { results := [.lit (.bool false)], args := [d] }
  | _ => none }
def NumTidsWrongFalsely : Prop := numTidsRow.holds Try.pinned (OpenSpec.ofChange numTidsWrong)

/-- 'dockmasterlaw01.NumApart': WHATEVER THE INPUT: true; the input reads as it did. -/
def numApartSpec : ChangeSpec := { name := "numApart", fn := fun _ => fun
  | [d1, d2, d3, d4, d5, d6] => { results := [.lit (.bool true)], args := [d1, d2, d3, d4, d5, d6] }
  | _ => none }
def numApartRow : OpenClaim := { program := "ytopnblhedankcaa", sum := "dcb8d2bba34c309d9bb6716b9caebbe6f5e201c7c40b68922f001275847b88c5", func := "dockmaster/dockmasterlaw01.NumApart", spec := "numApart", unfollowed := true, recurses := true, apart := false }
def NumApartSaid : Prop := numApartRow.holds Try.pinned (OpenSpec.ofChange numApartSpec)

/-- ITS FALSE NEIGHBOUR: 'it returns false'. Refute it at one input. -/
def numApartWrong : ChangeSpec := { name := "numApart", fn := fun _ => fun
  | [d1, d2, d3, d4, d5, d6] => { results := [.lit (.bool false)], args := [d1, d2, d3, d4, d5, d6] }
  | _ => none }
def NumApartWrongFalsely : Prop := numApartRow.holds Try.pinned (OpenSpec.ofChange numApartWrong)

/-- 'dockmasterlaw01.NumNil': WHATEVER THE INPUT: true; the input reads as it did. -/
def numNilSpec : ChangeSpec := { name := "numNil", fn := fun _ => fun
  | [d] => { results := [.lit (.bool true)], args := [d] }
  | _ => none }
def numNilRow : OpenClaim := { program := "ytopnblhedankcaa", sum := "dcb8d2bba34c309d9bb6716b9caebbe6f5e201c7c40b68922f001275847b88c5", func := "dockmaster/dockmasterlaw01.NumNil", spec := "numNil", apart := false }
def NumNilSaid : Prop := numNilRow.holds Try.pinned (OpenSpec.ofChange numNilSpec)

/-- ITS FALSE NEIGHBOUR: 'it returns false'. Refute it at one input. -/
def numNilWrong : ChangeSpec := { name := "numNil", fn := fun _ => fun
  | [d] => { results := [.lit (.bool false)], args := [d] }
  | _ => none }
def NumNilWrongFalsely : Prop := numNilRow.holds Try.pinned (OpenSpec.ofChange numNilWrong)

/-- 'dockmasterlaw01.NumElder': WHATEVER THE INPUT: true; the input reads as it did. -/
def numElderSpec : ChangeSpec := { name := "numElder", fn := fun _ => fun
  | [d1, d2, d3] => { results := [.lit (.bool true)], args := [d1, d2, d3] }
  | _ => none }
def numElderRow : OpenClaim := { program := "ytopnblhedankcaa", sum := "dcb8d2bba34c309d9bb6716b9caebbe6f5e201c7c40b68922f001275847b88c5", func := "dockmaster/dockmasterlaw01.NumElder", spec := "numElder", apart := false }
def NumElderSaid : Prop := numElderRow.holds Try.pinned (OpenSpec.ofChange numElderSpec)

/-- ITS FALSE NEIGHBOUR: 'it returns false'. Refute it at one input. -/
def numElderWrong : ChangeSpec := { name := "numElder", fn := fun _ => fun
  | [d1, d2, d3] => { results := [.lit (.bool false)], args := [d1, d2, d3] }
  | _ => none }
def NumElderWrongFalsely : Prop := numElderRow.holds Try.pinned (OpenSpec.ofChange numElderWrong)

/-- 'dockmasterlaw01.NumSizes': WHATEVER THE INPUT: true; the input reads as it did. -/
def numSizesSpec : ChangeSpec := { name := "numSizes", fn := fun _ => fun
  | [d1, d2] => { results := [.lit (.bool true)], args := [d1, d2] }
  | _ => none }
def numSizesRow : OpenClaim := { program := "ytopnblhedankcaa", sum := "dcb8d2bba34c309d9bb6716b9caebbe6f5e201c7c40b68922f001275847b88c5", func := "dockmaster/dockmasterlaw01.NumSizes", spec := "numSizes", apart := false }
def NumSizesSaid : Prop := numSizesRow.holds Try.pinned (OpenSpec.ofChange numSizesSpec)

/-- ITS FALSE NEIGHBOUR: 'it returns false'. Refute it at one input. -/
def numSizesWrong : ChangeSpec := { name := "numSizes", fn := fun _ => fun
  | [d1, d2] => { results := [.lit (.bool false)], args := [d1, d2] }
  | _ => none }
def NumSizesWrongFalsely : Prop := numSizesRow.holds Try.pinned (OpenSpec.ofChange numSizesWrong)

/-- 'dockmasterlaw01.NumBehind': WHATEVER THE INPUT: true; the input reads as it did. -/
def numBehindSpec : ChangeSpec := { name := "numBehind", fn := fun _ => fun
  | [d1, d2, d3] => { results := [.lit (.bool true)], args := [d1, d2, d3] }
  | _ => none }
def numBehindRow : OpenClaim := { program := "ytopnblhedankcaa", sum := "dcb8d2bba34c309d9bb6716b9caebbe6f5e201c7c40b68922f001275847b88c5", func := "dockmaster/dockmasterlaw01.NumBehind", spec := "numBehind", apart := false }
def NumBehindSaid : Prop := numBehindRow.holds Try.pinned (OpenSpec.ofChange numBehindSpec)

/-- ITS FALSE NEIGHBOUR: 'it returns false'. Refute it at one input. -/
def numBehindWrong : ChangeSpec := { name := "numBehind", fn := fun _ => fun
  | [d1, d2, d3] => { results := [.lit (.bool false)], args := [d1, d2, d3] }
  | _ => none }
def NumBehindWrongFalsely : Prop := numBehindRow.holds Try.pinned (OpenSpec.ofChange numBehindWrong)

/-- 'dockmasterlaw02.KeyRights': WHATEVER THE INPUT: true; the input reads as it did. -/
def keyRightsSpec : ChangeSpec := { name := "keyRights", fn := fun _ => fun
  | [d1, d2] => { results := [.lit (.bool true)], args := [d1, d2] }
  | _ => none }
def keyRightsRow : OpenClaim := { program := "ytopnblhedankcaa", sum := "dcb8d2bba34c309d9bb6716b9caebbe6f5e201c7c40b68922f001275847b88c5", func := "dockmaster/dockmasterlaw02.KeyRights", spec := "keyRights", apart := false }
def KeyRightsSaid : Prop := keyRightsRow.holds Try.pinned (OpenSpec.ofChange keyRightsSpec)

/-- ITS FALSE NEIGHBOUR: 'it returns false'. Refute it at one input. -/
def keyRightsWrong : ChangeSpec := { name := "keyRights", fn := fun _ => fun
  | [d1, d2] => { results := [.lit (.bool false)], args := [d1, d2] }
  | _ => none }
def KeyRightsWrongFalsely : Prop := keyRightsRow.holds Try.pinned (OpenSpec.ofChange keyRightsWrong)

/-- 'dockmasterlaw02.KeyHomes': WHATEVER THE INPUT: true; the input reads as it did. -/
def keyHomesSpec : ChangeSpec := { name := "keyHomes", fn := fun _ => fun
  | [d1, d2] => { results := [.lit (.bool true)], args := [d1, d2] }
  | _ => none }
def keyHomesRow : OpenClaim := { program := "ytopnblhedankcaa", sum := "dcb8d2bba34c309d9bb6716b9caebbe6f5e201c7c40b68922f001275847b88c5", func := "dockmaster/dockmasterlaw02.KeyHomes", spec := "keyHomes", apart := false }
def KeyHomesSaid : Prop := keyHomesRow.holds Try.pinned (OpenSpec.ofChange keyHomesSpec)

/-- ITS FALSE NEIGHBOUR: 'it returns false'. Refute it at one input. -/
def keyHomesWrong : ChangeSpec := { name := "keyHomes", fn := fun _ => fun
  | [d1, d2] => { results := [.lit (.bool false)], args := [d1, d2] }
  | _ => none }
def KeyHomesWrongFalsely : Prop := keyHomesRow.holds Try.pinned (OpenSpec.ofChange keyHomesWrong)

/-- 'dockmasterlaw02.KeyMaps': WHATEVER THE INPUT: true; the input reads as it did. -/
def keyMapsSpec : ChangeSpec := { name := "keyMaps", fn := fun _ => fun
  | [d] => { results := [.lit (.bool true)], args := [d] }
  | _ => none }
def keyMapsRow : OpenClaim := { program := "ytopnblhedankcaa", sum := "dcb8d2bba34c309d9bb6716b9caebbe6f5e201c7c40b68922f001275847b88c5", func := "dockmaster/dockmasterlaw02.KeyMaps", spec := "keyMaps", unfollowed := true, recurses := true, apart := false }
def KeyMapsSaid : Prop := keyMapsRow.holds Try.pinned (OpenSpec.ofChange keyMapsSpec)

/-- ITS FALSE NEIGHBOUR: 'it returns false'. Refute it at one input. -/
def keyMapsWrong : ChangeSpec := { name := "keyMaps", fn := fun _ => fun
  | [d] => { results := [.lit (.bool false)], args := [d] }
  | _ => none }
def KeyMapsWrongFalsely : Prop := keyMapsRow.holds Try.pinned (OpenSpec.ofChange keyMapsWrong)

/-- 'dockmasterlaw02.KeySame': WHATEVER THE INPUT: true; the input reads as it did. -/
def keySameSpec : ChangeSpec := { name := "keySame", fn := fun _ => fun
  | [d1, d2, d3] => { results := [.lit (.bool true)], args := [d1, d2, d3] }
  | _ => none }
def keySameRow : OpenClaim := { program := "ytopnblhedankcaa", sum := "dcb8d2bba34c309d9bb6716b9caebbe6f5e201c7c40b68922f001275847b88c5", func := "dockmaster/dockmasterlaw02.KeySame", spec := "keySame", unfollowed := true, recurses := true, apart := false }
def KeySameSaid : Prop := keySameRow.holds Try.pinned (OpenSpec.ofChange keySameSpec)

/-- ITS FALSE NEIGHBOUR: 'it returns false'. Refute it at one input. -/
def keySameWrong : ChangeSpec := { name := "keySame", fn := fun _ => fun
  | [d1, d2, d3] => { results := [.lit (.bool false)], args := [d1, d2, d3] }
  | _ => none }
def KeySameWrongFalsely : Prop := keySameRow.holds Try.pinned (OpenSpec.ofChange keySameWrong)

/- THE SECOND FORM. 'bulk': how many values and letters a reading holds, each counted each time it is reached (what is shared counts as often as it is met; a slice's spare places count too). A statement '..UptoSaid' is the law's where the arguments, and the package variables that the reading takes, are together of bulk at most 1048576: NARROWER than '..Said'. Prove '..Said' where nothing that the law and all that it calls make is longer than what came in: it says more and counts as full. Else prove '..UptoSaid'. A law counts once. -/
mutual
def uptoBulk {H : Type} : DataW H → Nat
  | .lit (.string bytes) => bytes.length + 1
  | .lit _ => 1
  | .nil => 1
  | .ptr d => uptoBulk d + 1
  | .slice elems spare => uptoBulkAll elems + uptoBulkAll spare + 1
  | .agg parts => uptoBulkAll parts + 1
  | .iface _ d => uptoBulk d + 1
  | .map entries => uptoBulkEntries entries + 1
  | .held _ => 1
def uptoBulkAll {H : Type} : List (DataW H) → Nat
  | [] => 0
  | d :: r => uptoBulk d + uptoBulkAll r
def uptoBulkEntries {H : Type} : List (Lit × DataW H) → Nat
  | [] => 0
  | x :: r => uptoBulkEntry x + uptoBulkEntries r
def uptoBulkEntry {H : Type} : Lit × DataW H → Nat
  | (.string bytes, d) => bytes.length + uptoBulk d + 1
  | (_, d) => uptoBulk d + 1
 end
def uptoSmall : (H : Type) → List (DataW H) → Bool := fun _ ds => decide (uptoBulkAll ds ≤ 1048576)
def OpenSpec.upto (s : _root_.Go.ChangeSpec) : _root_.Go.OpenSpec := { _root_.Go.OpenSpec.ofChange s with cond := some uptoSmall }

/-- 'dockmasterlaw01.NumPuts', WHERE WHAT IT READS IS OF BULK AT MOST 1048576: true; the input reads as it did. -/
def numPutsUptoRow : OpenClaim := { program := "ytopnblhedankcaa", sum := "dcb8d2bba34c309d9bb6716b9caebbe6f5e201c7c40b68922f001275847b88c5", func := "dockmaster/dockmasterlaw01.NumPuts", spec := "numPuts", apart := false, narrowed := true }
def NumPutsUptoSaid : Prop := numPutsUptoRow.holds Try.pinned (OpenSpec.upto numPutsSpec)

/-- 'dockmasterlaw01.NumTexts', WHERE WHAT IT READS IS OF BULK AT MOST 1048576: true; the input reads as it did. -/
def numTextsUptoRow : OpenClaim := { program := "ytopnblhedankcaa", sum := "dcb8d2bba34c309d9bb6716b9caebbe6f5e201c7c40b68922f001275847b88c5", func := "dockmaster/dockmasterlaw01.NumTexts", spec := "numTexts", apart := false, narrowed := true }
def NumTextsUptoSaid : Prop := numTextsUptoRow.holds Try.pinned (OpenSpec.upto numTextsSpec)

/-- 'dockmasterlaw01.NumTids', WHERE WHAT IT READS IS OF BULK AT MOST 1048576: true; the input reads as it did. -/
def numTidsUptoRow : OpenClaim := { program := "ytopnblhedankcaa", sum := "dcb8d2bba34c309d9bb6716b9caebbe6f5e201c7c40b68922f001275847b88c5", func := "dockmaster/dockmasterlaw01.NumTids", spec := "numTids", apart := false, narrowed := true }
def NumTidsUptoSaid : Prop := numTidsUptoRow.holds Try.pinned (OpenSpec.upto numTidsSpec)

/-- 'dockmasterlaw01.NumApart', WHERE WHAT IT READS IS OF BULK AT MOST 1048576: true; the input reads as it did. -/
def numApartUptoRow : OpenClaim := { program := "ytopnblhedankcaa", sum := "dcb8d2bba34c309d9bb6716b9caebbe6f5e201c7c40b68922f001275847b88c5", func := "dockmaster/dockmasterlaw01.NumApart", spec := "numApart", unfollowed := true, recurses := true, apart := false, narrowed := true }
def NumApartUptoSaid : Prop := numApartUptoRow.holds Try.pinned (OpenSpec.upto numApartSpec)

/-- 'dockmasterlaw01.NumNil', WHERE WHAT IT READS IS OF BULK AT MOST 1048576: true; the input reads as it did. -/
def numNilUptoRow : OpenClaim := { program := "ytopnblhedankcaa", sum := "dcb8d2bba34c309d9bb6716b9caebbe6f5e201c7c40b68922f001275847b88c5", func := "dockmaster/dockmasterlaw01.NumNil", spec := "numNil", apart := false, narrowed := true }
def NumNilUptoSaid : Prop := numNilUptoRow.holds Try.pinned (OpenSpec.upto numNilSpec)

/-- 'dockmasterlaw01.NumElder', WHERE WHAT IT READS IS OF BULK AT MOST 1048576: true; the input reads as it did. -/
def numElderUptoRow : OpenClaim := { program := "ytopnblhedankcaa", sum := "dcb8d2bba34c309d9bb6716b9caebbe6f5e201c7c40b68922f001275847b88c5", func := "dockmaster/dockmasterlaw01.NumElder", spec := "numElder", apart := false, narrowed := true }
def NumElderUptoSaid : Prop := numElderUptoRow.holds Try.pinned (OpenSpec.upto numElderSpec)

/-- 'dockmasterlaw01.NumSizes', WHERE WHAT IT READS IS OF BULK AT MOST 1048576: true; the input reads as it did. -/
def numSizesUptoRow : OpenClaim := { program := "ytopnblhedankcaa", sum := "dcb8d2bba34c309d9bb6716b9caebbe6f5e201c7c40b68922f001275847b88c5", func := "dockmaster/dockmasterlaw01.NumSizes", spec := "numSizes", apart := false, narrowed := true }
def NumSizesUptoSaid : Prop := numSizesUptoRow.holds Try.pinned (OpenSpec.upto numSizesSpec)

/-- 'dockmasterlaw01.NumBehind', WHERE WHAT IT READS IS OF BULK AT MOST 1048576: true; the input reads as it did. -/
def numBehindUptoRow : OpenClaim := { program := "ytopnblhedankcaa", sum := "dcb8d2bba34c309d9bb6716b9caebbe6f5e201c7c40b68922f001275847b88c5", func := "dockmaster/dockmasterlaw01.NumBehind", spec := "numBehind", apart := false, narrowed := true }
def NumBehindUptoSaid : Prop := numBehindUptoRow.holds Try.pinned (OpenSpec.upto numBehindSpec)

/-- 'dockmasterlaw02.KeyRights', WHERE WHAT IT READS IS OF BULK AT MOST 1048576: true; the input reads as it did. -/
def keyRightsUptoRow : OpenClaim := { program := "ytopnblhedankcaa", sum := "dcb8d2bba34c309d9bb6716b9caebbe6f5e201c7c40b68922f001275847b88c5", func := "dockmaster/dockmasterlaw02.KeyRights", spec := "keyRights", apart := false, narrowed := true }
def KeyRightsUptoSaid : Prop := keyRightsUptoRow.holds Try.pinned (OpenSpec.upto keyRightsSpec)

/-- 'dockmasterlaw02.KeyHomes', WHERE WHAT IT READS IS OF BULK AT MOST 1048576: true; the input reads as it did. -/
def keyHomesUptoRow : OpenClaim := { program := "ytopnblhedankcaa", sum := "dcb8d2bba34c309d9bb6716b9caebbe6f5e201c7c40b68922f001275847b88c5", func := "dockmaster/dockmasterlaw02.KeyHomes", spec := "keyHomes", apart := false, narrowed := true }
def KeyHomesUptoSaid : Prop := keyHomesUptoRow.holds Try.pinned (OpenSpec.upto keyHomesSpec)

/-- 'dockmasterlaw02.KeyMaps', WHERE WHAT IT READS IS OF BULK AT MOST 1048576: true; the input reads as it did. -/
def keyMapsUptoRow : OpenClaim := { program := "ytopnblhedankcaa", sum := "dcb8d2bba34c309d9bb6716b9caebbe6f5e201c7c40b68922f001275847b88c5", func := "dockmaster/dockmasterlaw02.KeyMaps", spec := "keyMaps", unfollowed := true, recurses := true, apart := false, narrowed := true }
def KeyMapsUptoSaid : Prop := keyMapsUptoRow.holds Try.pinned (OpenSpec.upto keyMapsSpec)

/-- 'dockmasterlaw02.KeySame', WHERE WHAT IT READS IS OF BULK AT MOST 1048576: true; the input reads as it did. -/
def keySameUptoRow : OpenClaim := { program := "ytopnblhedankcaa", sum := "dcb8d2bba34c309d9bb6716b9caebbe6f5e201c7c40b68922f001275847b88c5", func := "dockmaster/dockmasterlaw02.KeySame", spec := "keySame", unfollowed := true, recurses := true, apart := false, narrowed := true }
def KeySameUptoSaid : Prop := keySameUptoRow.holds Try.pinned (OpenSpec.upto keySameSpec)

end Rows
end Go.Proofs.Ytopnblhedankcaa

/-
  No cell of these rows narrows 'for every input' (looked for: loops, veiled, ifaces, maps, wideKeys, modest, calm, conditions, laid).
  DERIVED. THE GIVEN ROWS OF THIS SEAT. 7 by the template 'for every input the law returns true; each argument reads behind the call as it read before'; 0 by the template 'total and deterministic' (their statements: YthpocilmnohahaaTotals.lean).
  GIVEN WITH THE SEED: the statements are not yours to turn. If you find one false, say at which input.
  Laid BY PROGRAM, IN A SANDBOX (cutbox-rows.mjs): the forced cells as the released guide's own fill.sh prints them over the translation 80bf26a35520e208… (all of the seat's roots in one cut). By AI agents, Wed Nov 11 2026. No macro, syntax, notation, axiom, sorry.
-/
import Derived.Test.YthpocilmnohahaaChecked
import GoSem.Claim
import GoSem.ClaimJoined
import GoSem.ClaimMapViews
import Derived.JoinedTies
import Derived.KernelRfl
namespace Go.Proofs.Ythpocilmnohahaa
/- THE CELL 'sum', in the pinned program and in every row, IS THE sha256 OF THE DUMP (.gsa) THAT YthpocilmnohahaaProg.lean LOADS. Nothing in Lean hashes anything: it is a label: what it is worth is what the hold of that sum in a sandbox is worth. -/
noncomputable def Try.pinned : Pinned := { name := "ythpocilmnohahaa", sum := "80bf26a35520e2083caa4fdecf20e6b82fdfd901fefb46b87c24678a564fc822", checked := Try.checked }
namespace Rows
def none {H : Type} : Left H := { results := [], args := [] }

/-- 'valancelaw05.LengthTells': WHATEVER THE INPUT: true; the input reads as it did. -/
def lengthTellsSpec : ChangeSpec := { name := "lengthTells", fn := fun _ => fun
  | [d1, d2, d3, d4] => { results := [.lit (.bool true)], args := [d1, d2, d3, d4] }
  | _ => none }
def lengthTellsRow : OpenClaim := { program := "ythpocilmnohahaa", sum := "80bf26a35520e2083caa4fdecf20e6b82fdfd901fefb46b87c24678a564fc822", func := "valance/valancelaw05.LengthTells", spec := "lengthTells", unfollowed := true, recurses := true, apart := false }
def LengthTellsSaid : Prop := lengthTellsRow.holds Try.pinned (OpenSpec.ofChange lengthTellsSpec)

/-- ITS FALSE NEIGHBOUR: 'it returns false'. Refute it at one input. -/
def lengthTellsWrong : ChangeSpec := { name := "lengthTells", fn := fun _ => fun
  | [d1, d2, d3, d4] => { results := [.lit (.bool false)], args := [d1, d2, d3, d4] }
  | _ => none }
def LengthTellsWrongFalsely : Prop := lengthTellsRow.holds Try.pinned (OpenSpec.ofChange lengthTellsWrong)

/-- 'valancelaw05.LengthLimits': WHATEVER THE INPUT: true; the input reads as it did. -/
def lengthLimitsSpec : ChangeSpec := { name := "lengthLimits", fn := fun _ => fun
  | [d1, d2, d3, d4] => { results := [.lit (.bool true)], args := [d1, d2, d3, d4] }
  | _ => none }
def lengthLimitsRow : OpenClaim := { program := "ythpocilmnohahaa", sum := "80bf26a35520e2083caa4fdecf20e6b82fdfd901fefb46b87c24678a564fc822", func := "valance/valancelaw05.LengthLimits", spec := "lengthLimits", unfollowed := true, recurses := true, apart := false }
def LengthLimitsSaid : Prop := lengthLimitsRow.holds Try.pinned (OpenSpec.ofChange lengthLimitsSpec)

/-- ITS FALSE NEIGHBOUR: 'it returns false'. Refute it at one input. -/
def lengthLimitsWrong : ChangeSpec := { name := "lengthLimits", fn := fun _ => fun
  | [d1, d2, d3, d4] => { results := [.lit (.bool false)], args := [d1, d2, d3, d4] }
  | _ => none }
def LengthLimitsWrongFalsely : Prop := lengthLimitsRow.holds Try.pinned (OpenSpec.ofChange lengthLimitsWrong)

/-- 'valancelaw05.LengthWithin': WHATEVER THE INPUT: true; the input reads as it did. -/
def lengthWithinSpec : ChangeSpec := { name := "lengthWithin", fn := fun _ => fun
  | [d1, d2, d3, d4, d5] => { results := [.lit (.bool true)], args := [d1, d2, d3, d4, d5] }
  | _ => none }
def lengthWithinRow : OpenClaim := { program := "ythpocilmnohahaa", sum := "80bf26a35520e2083caa4fdecf20e6b82fdfd901fefb46b87c24678a564fc822", func := "valance/valancelaw05.LengthWithin", spec := "lengthWithin", unfollowed := true, recurses := true, apart := false }
def LengthWithinSaid : Prop := lengthWithinRow.holds Try.pinned (OpenSpec.ofChange lengthWithinSpec)

/-- ITS FALSE NEIGHBOUR: 'it returns false'. Refute it at one input. -/
def lengthWithinWrong : ChangeSpec := { name := "lengthWithin", fn := fun _ => fun
  | [d1, d2, d3, d4, d5] => { results := [.lit (.bool false)], args := [d1, d2, d3, d4, d5] }
  | _ => none }
def LengthWithinWrongFalsely : Prop := lengthWithinRow.holds Try.pinned (OpenSpec.ofChange lengthWithinWrong)

/-- 'valancelaw05.LengthParts': WHATEVER THE INPUT: true; the input reads as it did. -/
def lengthPartsSpec : ChangeSpec := { name := "lengthParts", fn := fun _ => fun
  | [d1, d2, d3, d4] => { results := [.lit (.bool true)], args := [d1, d2, d3, d4] }
  | _ => none }
def lengthPartsRow : OpenClaim := { program := "ythpocilmnohahaa", sum := "80bf26a35520e2083caa4fdecf20e6b82fdfd901fefb46b87c24678a564fc822", func := "valance/valancelaw05.LengthParts", spec := "lengthParts", unfollowed := true, recurses := true, apart := false }
def LengthPartsSaid : Prop := lengthPartsRow.holds Try.pinned (OpenSpec.ofChange lengthPartsSpec)

/-- ITS FALSE NEIGHBOUR: 'it returns false'. Refute it at one input. -/
def lengthPartsWrong : ChangeSpec := { name := "lengthParts", fn := fun _ => fun
  | [d1, d2, d3, d4] => { results := [.lit (.bool false)], args := [d1, d2, d3, d4] }
  | _ => none }
def LengthPartsWrongFalsely : Prop := lengthPartsRow.holds Try.pinned (OpenSpec.ofChange lengthPartsWrong)

/-- 'valancelaw05.LengthSides': WHATEVER THE INPUT: true; the input reads as it did. -/
def lengthSidesSpec : ChangeSpec := { name := "lengthSides", fn := fun _ => fun
  | [d1, d2, d3] => { results := [.lit (.bool true)], args := [d1, d2, d3] }
  | _ => none }
def lengthSidesRow : OpenClaim := { program := "ythpocilmnohahaa", sum := "80bf26a35520e2083caa4fdecf20e6b82fdfd901fefb46b87c24678a564fc822", func := "valance/valancelaw05.LengthSides", spec := "lengthSides", unfollowed := true, recurses := true, apart := false }
def LengthSidesSaid : Prop := lengthSidesRow.holds Try.pinned (OpenSpec.ofChange lengthSidesSpec)

/-- ITS FALSE NEIGHBOUR: 'it returns false'. Refute it at one input. -/
def lengthSidesWrong : ChangeSpec := { name := "lengthSides", fn := fun _ => fun
  | [d1, d2, d3] => { results := [.lit (.bool false)], args := [d1, d2, d3] }
  | _ => none }
def LengthSidesWrongFalsely : Prop := lengthSidesRow.holds Try.pinned (OpenSpec.ofChange lengthSidesWrong)

/-- 'valancelaw05.LengthValid': WHATEVER THE INPUT: true; the input reads as it did. -/
def lengthValidSpec : ChangeSpec := { name := "lengthValid", fn := fun _ => fun
  | [d1, d2] => { results := [.lit (.bool true)], args := [d1, d2] }
  | _ => none }
def lengthValidRow : OpenClaim := { program := "ythpocilmnohahaa", sum := "80bf26a35520e2083caa4fdecf20e6b82fdfd901fefb46b87c24678a564fc822", func := "valance/valancelaw05.LengthValid", spec := "lengthValid", unfollowed := true, recurses := true, apart := false }
def LengthValidSaid : Prop := lengthValidRow.holds Try.pinned (OpenSpec.ofChange lengthValidSpec)

/-- ITS FALSE NEIGHBOUR: 'it returns false'. Refute it at one input. -/
def lengthValidWrong : ChangeSpec := { name := "lengthValid", fn := fun _ => fun
  | [d1, d2] => { results := [.lit (.bool false)], args := [d1, d2] }
  | _ => none }
def LengthValidWrongFalsely : Prop := lengthValidRow.holds Try.pinned (OpenSpec.ofChange lengthValidWrong)

/-- 'valancelaw05.LengthMore': WHATEVER THE INPUT: true; the input reads as it did. -/
def lengthMoreSpec : ChangeSpec := { name := "lengthMore", fn := fun _ => fun
  | [d1, d2, d3, d4, d5] => { results := [.lit (.bool true)], args := [d1, d2, d3, d4, d5] }
  | _ => none }
def lengthMoreRow : OpenClaim := { program := "ythpocilmnohahaa", sum := "80bf26a35520e2083caa4fdecf20e6b82fdfd901fefb46b87c24678a564fc822", func := "valance/valancelaw05.LengthMore", spec := "lengthMore", unfollowed := true, recurses := true, apart := false }
def LengthMoreSaid : Prop := lengthMoreRow.holds Try.pinned (OpenSpec.ofChange lengthMoreSpec)

/-- ITS FALSE NEIGHBOUR: 'it returns false'. Refute it at one input. -/
def lengthMoreWrong : ChangeSpec := { name := "lengthMore", fn := fun _ => fun
  | [d1, d2, d3, d4, d5] => { results := [.lit (.bool false)], args := [d1, d2, d3, d4, d5] }
  | _ => none }
def LengthMoreWrongFalsely : Prop := lengthMoreRow.holds Try.pinned (OpenSpec.ofChange lengthMoreWrong)

/- THE SECOND FORM. 'bulk': how many values and letters a reading holds, each counted each time it is reached (what is shared counts as often as it is met; a slice's spare places count too). A statement '..UptoSaid' is the law's where the arguments, and the package variables that the reading takes, are together of bulk at most 1048576: NARROWER than '..Said'. Prove '..Said' where nothing that the law and all that it calls make is longer than what came in: it says more and counts as full. Else prove '..UptoSaid'. A law counts once. -/
mutual
def uptoBulk {H : Type} : DataW H → Nat
  | .lit (.string bytes) => bytes.length + 1
  | .lit _ => 1
  | .nil => 1
  | .ptr d => uptoBulk d + 1
  | .slice elems spare => uptoBulkAll elems + uptoBulkAll spare + 1
  | .agg parts => uptoBulkAll parts + 1
  | .iface _ d => uptoBulk d + 1
  | .map entries => uptoBulkEntries entries + 1
  | .held _ => 1
def uptoBulkAll {H : Type} : List (DataW H) → Nat
  | [] => 0
  | d :: r => uptoBulk d + uptoBulkAll r
def uptoBulkEntries {H : Type} : List (Lit × DataW H) → Nat
  | [] => 0
  | x :: r => uptoBulkEntry x + uptoBulkEntries r
def uptoBulkEntry {H : Type} : Lit × DataW H → Nat
  | (.string bytes, d) => bytes.length + uptoBulk d + 1
  | (_, d) => uptoBulk d + 1
 end
def uptoSmall : (H : Type) → List (DataW H) → Bool := fun _ ds => decide (uptoBulkAll ds ≤ 1048576)
def OpenSpec.upto (s : _root_.Go.ChangeSpec) : _root_.Go.OpenSpec := { _root_.Go.OpenSpec.ofChange s with cond := some uptoSmall }

/-- 'valancelaw05.LengthTells', WHERE WHAT IT READS IS OF BULK AT MOST 1048576: true; the input reads as it did. -/
def lengthTellsUptoRow : OpenClaim := { program := "ythpocilmnohahaa", sum := "80bf26a35520e2083caa4fdecf20e6b82fdfd901fefb46b87c24678a564fc822", func := "valance/valancelaw05.LengthTells", spec := "lengthTells", unfollowed := true, recurses := true, apart := false, narrowed := true }
def LengthTellsUptoSaid : Prop := lengthTellsUptoRow.holds Try.pinned (OpenSpec.upto lengthTellsSpec)

/-- 'valancelaw05.LengthLimits', WHERE WHAT IT READS IS OF BULK AT MOST 1048576: true; the input reads as it did. -/
def lengthLimitsUptoRow : OpenClaim := { program := "ythpocilmnohahaa", sum := "80bf26a35520e2083caa4fdecf20e6b82fdfd901fefb46b87c24678a564fc822", func := "valance/valancelaw05.LengthLimits", spec := "lengthLimits", unfollowed := true, recurses := true, apart := false, narrowed := true }
def LengthLimitsUptoSaid : Prop := lengthLimitsUptoRow.holds Try.pinned (OpenSpec.upto lengthLimitsSpec)

/-- 'valancelaw05.LengthWithin', WHERE WHAT IT READS IS OF BULK AT MOST 1048576: true; the input reads as it did. -/
def lengthWithinUptoRow : OpenClaim := { program := "ythpocilmnohahaa", sum := "80bf26a35520e2083caa4fdecf20e6b82fdfd901fefb46b87c24678a564fc822", func := "valance/valancelaw05.LengthWithin", spec := "lengthWithin", unfollowed := true, recurses := true, apart := false, narrowed := true }
def LengthWithinUptoSaid : Prop := lengthWithinUptoRow.holds Try.pinned (OpenSpec.upto lengthWithinSpec)

/-- 'valancelaw05.LengthParts', WHERE WHAT IT READS IS OF BULK AT MOST 1048576: true; the input reads as it did. -/
def lengthPartsUptoRow : OpenClaim := { program := "ythpocilmnohahaa", sum := "80bf26a35520e2083caa4fdecf20e6b82fdfd901fefb46b87c24678a564fc822", func := "valance/valancelaw05.LengthParts", spec := "lengthParts", unfollowed := true, recurses := true, apart := false, narrowed := true }
def LengthPartsUptoSaid : Prop := lengthPartsUptoRow.holds Try.pinned (OpenSpec.upto lengthPartsSpec)

/-- 'valancelaw05.LengthSides', WHERE WHAT IT READS IS OF BULK AT MOST 1048576: true; the input reads as it did. -/
def lengthSidesUptoRow : OpenClaim := { program := "ythpocilmnohahaa", sum := "80bf26a35520e2083caa4fdecf20e6b82fdfd901fefb46b87c24678a564fc822", func := "valance/valancelaw05.LengthSides", spec := "lengthSides", unfollowed := true, recurses := true, apart := false, narrowed := true }
def LengthSidesUptoSaid : Prop := lengthSidesUptoRow.holds Try.pinned (OpenSpec.upto lengthSidesSpec)

/-- 'valancelaw05.LengthValid', WHERE WHAT IT READS IS OF BULK AT MOST 1048576: true; the input reads as it did. -/
def lengthValidUptoRow : OpenClaim := { program := "ythpocilmnohahaa", sum := "80bf26a35520e2083caa4fdecf20e6b82fdfd901fefb46b87c24678a564fc822", func := "valance/valancelaw05.LengthValid", spec := "lengthValid", unfollowed := true, recurses := true, apart := false, narrowed := true }
def LengthValidUptoSaid : Prop := lengthValidUptoRow.holds Try.pinned (OpenSpec.upto lengthValidSpec)

/-- 'valancelaw05.LengthMore', WHERE WHAT IT READS IS OF BULK AT MOST 1048576: true; the input reads as it did. -/
def lengthMoreUptoRow : OpenClaim := { program := "ythpocilmnohahaa", sum := "80bf26a35520e2083caa4fdecf20e6b82fdfd901fefb46b87c24678a564fc822", func := "valance/valancelaw05.LengthMore", spec := "lengthMore", unfollowed := true, recurses := true, apart := false, narrowed := true }
def LengthMoreUptoSaid : Prop := lengthMoreUptoRow.holds Try.pinned (OpenSpec.upto lengthMoreSpec)

end Rows
end Go.Proofs.Ythpocilmnohahaa

/-
  No cell of these rows narrows 'for every input' (looked for: loops, veiled, ifaces, maps, wideKeys, modest, calm, conditions, laid).
  DERIVED. THE GIVEN ROWS OF THIS SEAT. 6 by the template 'for every input the law returns true; each argument reads behind the call as it read before'; 0 by the template 'total and deterministic' (their statements: YtnoofdojbgkmkaaTotals.lean).
  GIVEN WITH THE SEED: the statements are not yours to turn. If you find one false, say at which input.
  Laid BY PROGRAM, IN A SANDBOX (cutbox-rows.mjs): the forced cells as the released guide's own fill.sh prints them over the translation 48e3a117ea3afb8a… (all of the seat's roots in one cut). By AI agents, Wed Nov 11 2026. No macro, syntax, notation, axiom, sorry.
-/
import Derived.Test.YtnoofdojbgkmkaaChecked
import GoSem.Claim
import GoSem.ClaimJoined
import GoSem.ClaimMapViews
import Derived.JoinedTies
import Derived.KernelRfl
namespace Go.Proofs.Ytnoofdojbgkmkaa
/- THE CELL 'sum', in the pinned program and in every row, IS THE sha256 OF THE DUMP (.gsa) THAT YtnoofdojbgkmkaaProg.lean LOADS. Nothing in Lean hashes anything: it is a label: what it is worth is what the hold of that sum in a sandbox is worth. -/
noncomputable def Try.pinned : Pinned := { name := "ytnoofdojbgkmkaa", sum := "48e3a117ea3afb8a018fc6fb2166d04efae71f7b18880a4ba4e96c71bb194487", checked := Try.checked }
namespace Rows
def none {H : Type} : Left H := { results := [], args := [] }

/-- 'valancelaw12.AnchorPicks': WHATEVER THE INPUT: true; the input reads as it did. -/
def anchorPicksSpec : ChangeSpec := { name := "anchorPicks", fn := fun _ => fun
  | [d1, d2, d3, d4, d5, d6] => { results := [.lit (.bool true)], args := [d1, d2, d3, d4, d5, d6] }
  | _ => none }
def anchorPicksRow : OpenClaim := { program := "ytnoofdojbgkmkaa", sum := "48e3a117ea3afb8a018fc6fb2166d04efae71f7b18880a4ba4e96c71bb194487", func := "valance/valancelaw12.AnchorPicks", spec := "anchorPicks", recurses := true, apart := false }
def AnchorPicksSaid : Prop := anchorPicksRow.holds Try.pinned (OpenSpec.ofChange anchorPicksSpec)

/-- ITS FALSE NEIGHBOUR: 'it returns false'. Refute it at one input. -/
def anchorPicksWrong : ChangeSpec := { name := "anchorPicks", fn := fun _ => fun
  | [d1, d2, d3, d4, d5, d6] => { results := [.lit (.bool false)], args := [d1, d2, d3, d4, d5, d6] }
  | _ => none }
def AnchorPicksWrongFalsely : Prop := anchorPicksRow.holds Try.pinned (OpenSpec.ofChange anchorPicksWrong)

/-- 'valancelaw12.AnchorSeen': WHATEVER THE INPUT: true; the input reads as it did. -/
def anchorSeenSpec : ChangeSpec := { name := "anchorSeen", fn := fun _ => fun
  | [d1, d2] => { results := [.lit (.bool true)], args := [d1, d2] }
  | _ => none }
def anchorSeenRow : OpenClaim := { program := "ytnoofdojbgkmkaa", sum := "48e3a117ea3afb8a018fc6fb2166d04efae71f7b18880a4ba4e96c71bb194487", func := "valance/valancelaw12.AnchorSeen", spec := "anchorSeen", apart := false }
def AnchorSeenSaid : Prop := anchorSeenRow.holds Try.pinned (OpenSpec.ofChange anchorSeenSpec)

/-- ITS FALSE NEIGHBOUR: 'it returns false'. Refute it at one input. -/
def anchorSeenWrong : ChangeSpec := { name := "anchorSeen", fn := fun _ => fun
  | [d1, d2] => { results := [.lit (.bool false)], args := [d1, d2] }
  | _ => none }
def AnchorSeenWrongFalsely : Prop := anchorSeenRow.holds Try.pinned (OpenSpec.ofChange anchorSeenWrong)

/-- 'valancelaw12.AnchorKeeps': WHATEVER THE INPUT: true; the input reads as it did. -/
def anchorKeepsSpec : ChangeSpec := { name := "anchorKeeps", fn := fun _ => fun
  | [d1, d2, d3, d4] => { results := [.lit (.bool true)], args := [d1, d2, d3, d4] }
  | _ => none }
def anchorKeepsRow : OpenClaim := { program := "ytnoofdojbgkmkaa", sum := "48e3a117ea3afb8a018fc6fb2166d04efae71f7b18880a4ba4e96c71bb194487", func := "valance/valancelaw12.AnchorKeeps", spec := "anchorKeeps", apart := false }
def AnchorKeepsSaid : Prop := anchorKeepsRow.holds Try.pinned (OpenSpec.ofChange anchorKeepsSpec)

/-- ITS FALSE NEIGHBOUR: 'it returns false'. Refute it at one input. -/
def anchorKeepsWrong : ChangeSpec := { name := "anchorKeeps", fn := fun _ => fun
  | [d1, d2, d3, d4] => { results := [.lit (.bool false)], args := [d1, d2, d3, d4] }
  | _ => none }
def AnchorKeepsWrongFalsely : Prop := anchorKeepsRow.holds Try.pinned (OpenSpec.ofChange anchorKeepsWrong)

/-- 'valancelaw12.AnchorAgain': WHATEVER THE INPUT: true; the input reads as it did. -/
def anchorAgainSpec : ChangeSpec := { name := "anchorAgain", fn := fun _ => fun
  | [d1, d2, d3, d4] => { results := [.lit (.bool true)], args := [d1, d2, d3, d4] }
  | _ => none }
def anchorAgainRow : OpenClaim := { program := "ytnoofdojbgkmkaa", sum := "48e3a117ea3afb8a018fc6fb2166d04efae71f7b18880a4ba4e96c71bb194487", func := "valance/valancelaw12.AnchorAgain", spec := "anchorAgain", apart := false }
def AnchorAgainSaid : Prop := anchorAgainRow.holds Try.pinned (OpenSpec.ofChange anchorAgainSpec)

/-- ITS FALSE NEIGHBOUR: 'it returns false'. Refute it at one input. -/
def anchorAgainWrong : ChangeSpec := { name := "anchorAgain", fn := fun _ => fun
  | [d1, d2, d3, d4] => { results := [.lit (.bool false)], args := [d1, d2, d3, d4] }
  | _ => none }
def AnchorAgainWrongFalsely : Prop := anchorAgainRow.holds Try.pinned (OpenSpec.ofChange anchorAgainWrong)

/-- 'valancelaw12.AnchorSkips': WHATEVER THE INPUT: true; the input reads as it did. -/
def anchorSkipsSpec : ChangeSpec := { name := "anchorSkips", fn := fun _ => fun
  | [d1, d2] => { results := [.lit (.bool true)], args := [d1, d2] }
  | _ => none }
def anchorSkipsRow : OpenClaim := { program := "ytnoofdojbgkmkaa", sum := "48e3a117ea3afb8a018fc6fb2166d04efae71f7b18880a4ba4e96c71bb194487", func := "valance/valancelaw12.AnchorSkips", spec := "anchorSkips", apart := false }
def AnchorSkipsSaid : Prop := anchorSkipsRow.holds Try.pinned (OpenSpec.ofChange anchorSkipsSpec)

/-- ITS FALSE NEIGHBOUR: 'it returns false'. Refute it at one input. -/
def anchorSkipsWrong : ChangeSpec := { name := "anchorSkips", fn := fun _ => fun
  | [d1, d2] => { results := [.lit (.bool false)], args := [d1, d2] }
  | _ => none }
def AnchorSkipsWrongFalsely : Prop := anchorSkipsRow.holds Try.pinned (OpenSpec.ofChange anchorSkipsWrong)

/-- 'valancelaw12.AnchorSights': WHATEVER THE INPUT: true; the input reads as it did. -/
def anchorSightsSpec : ChangeSpec := { name := "anchorSights", fn := fun _ => fun
  | [d1, d2] => { results := [.lit (.bool true)], args := [d1, d2] }
  | _ => none }
def anchorSightsRow : OpenClaim := { program := "ytnoofdojbgkmkaa", sum := "48e3a117ea3afb8a018fc6fb2166d04efae71f7b18880a4ba4e96c71bb194487", func := "valance/valancelaw12.AnchorSights", spec := "anchorSights", apart := false }
def AnchorSightsSaid : Prop := anchorSightsRow.holds Try.pinned (OpenSpec.ofChange anchorSightsSpec)

/-- ITS FALSE NEIGHBOUR: 'it returns false'. Refute it at one input. -/
def anchorSightsWrong : ChangeSpec := { name := "anchorSights", fn := fun _ => fun
  | [d1, d2] => { results := [.lit (.bool false)], args := [d1, d2] }
  | _ => none }
def AnchorSightsWrongFalsely : Prop := anchorSightsRow.holds Try.pinned (OpenSpec.ofChange anchorSightsWrong)

/- THE SECOND FORM. 'bulk': how many values and letters a reading holds, each counted each time it is reached (what is shared counts as often as it is met; a slice's spare places count too). A statement '..UptoSaid' is the law's where the arguments, and the package variables that the reading takes, are together of bulk at most 1048576: NARROWER than '..Said'. Prove '..Said' where nothing that the law and all that it calls make is longer than what came in: it says more and counts as full. Else prove '..UptoSaid'. A law counts once. -/
mutual
def uptoBulk {H : Type} : DataW H → Nat
  | .lit (.string bytes) => bytes.length + 1
  | .lit _ => 1
  | .nil => 1
  | .ptr d => uptoBulk d + 1
  | .slice elems spare => uptoBulkAll elems + uptoBulkAll spare + 1
  | .agg parts => uptoBulkAll parts + 1
  | .iface _ d => uptoBulk d + 1
  | .map entries => uptoBulkEntries entries + 1
  | .held _ => 1
def uptoBulkAll {H : Type} : List (DataW H) → Nat
  | [] => 0
  | d :: r => uptoBulk d + uptoBulkAll r
def uptoBulkEntries {H : Type} : List (Lit × DataW H) → Nat
  | [] => 0
  | x :: r => uptoBulkEntry x + uptoBulkEntries r
def uptoBulkEntry {H : Type} : Lit × DataW H → Nat
  | (.string bytes, d) => bytes.length + uptoBulk d + 1
  | (_, d) => uptoBulk d + 1
 end
def uptoSmall : (H : Type) → List (DataW H) → Bool := fun _ ds => decide (uptoBulkAll ds ≤ 1048576)
def OpenSpec.upto (s : _root_.Go.ChangeSpec) : _root_.Go.OpenSpec := { _root_.Go.OpenSpec.ofChange s with cond := some uptoSmall }

/-- 'valancelaw12.AnchorPicks', WHERE WHAT IT READS IS OF BULK AT MOST 1048576: true; the input reads as it did. -/
def anchorPicksUptoRow : OpenClaim := { program := "ytnoofdojbgkmkaa", sum := "48e3a117ea3afb8a018fc6fb2166d04efae71f7b18880a4ba4e96c71bb194487", func := "valance/valancelaw12.AnchorPicks", spec := "anchorPicks", recurses := true, apart := false, narrowed := true }
def AnchorPicksUptoSaid : Prop := anchorPicksUptoRow.holds Try.pinned (OpenSpec.upto anchorPicksSpec)

/-- 'valancelaw12.AnchorSeen', WHERE WHAT IT READS IS OF BULK AT MOST 1048576: true; the input reads as it did. -/
def anchorSeenUptoRow : OpenClaim := { program := "ytnoofdojbgkmkaa", sum := "48e3a117ea3afb8a018fc6fb2166d04efae71f7b18880a4ba4e96c71bb194487", func := "valance/valancelaw12.AnchorSeen", spec := "anchorSeen", apart := false, narrowed := true }
def AnchorSeenUptoSaid : Prop := anchorSeenUptoRow.holds Try.pinned (OpenSpec.upto anchorSeenSpec)

/-- 'valancelaw12.AnchorKeeps', WHERE WHAT IT READS IS OF BULK AT MOST 1048576: true; the input reads as it did. -/
def anchorKeepsUptoRow : OpenClaim := { program := "ytnoofdojbgkmkaa", sum := "48e3a117ea3afb8a018fc6fb2166d04efae71f7b18880a4ba4e96c71bb194487", func := "valance/valancelaw12.AnchorKeeps", spec := "anchorKeeps", apart := false, narrowed := true }
def AnchorKeepsUptoSaid : Prop := anchorKeepsUptoRow.holds Try.pinned (OpenSpec.upto anchorKeepsSpec)

/-- 'valancelaw12.AnchorAgain', WHERE WHAT IT READS IS OF BULK AT MOST 1048576: true; the input reads as it did. -/
def anchorAgainUptoRow : OpenClaim := { program := "ytnoofdojbgkmkaa", sum := "48e3a117ea3afb8a018fc6fb2166d04efae71f7b18880a4ba4e96c71bb194487", func := "valance/valancelaw12.AnchorAgain", spec := "anchorAgain", apart := false, narrowed := true }
def AnchorAgainUptoSaid : Prop := anchorAgainUptoRow.holds Try.pinned (OpenSpec.upto anchorAgainSpec)

/-- 'valancelaw12.AnchorSkips', WHERE WHAT IT READS IS OF BULK AT MOST 1048576: true; the input reads as it did. -/
def anchorSkipsUptoRow : OpenClaim := { program := "ytnoofdojbgkmkaa", sum := "48e3a117ea3afb8a018fc6fb2166d04efae71f7b18880a4ba4e96c71bb194487", func := "valance/valancelaw12.AnchorSkips", spec := "anchorSkips", apart := false, narrowed := true }
def AnchorSkipsUptoSaid : Prop := anchorSkipsUptoRow.holds Try.pinned (OpenSpec.upto anchorSkipsSpec)

/-- 'valancelaw12.AnchorSights', WHERE WHAT IT READS IS OF BULK AT MOST 1048576: true; the input reads as it did. -/
def anchorSightsUptoRow : OpenClaim := { program := "ytnoofdojbgkmkaa", sum := "48e3a117ea3afb8a018fc6fb2166d04efae71f7b18880a4ba4e96c71bb194487", func := "valance/valancelaw12.AnchorSights", spec := "anchorSights", apart := false, narrowed := true }
def AnchorSightsUptoSaid : Prop := anchorSightsUptoRow.holds Try.pinned (OpenSpec.upto anchorSightsSpec)

end Rows
end Go.Proofs.Ytnoofdojbgkmkaa

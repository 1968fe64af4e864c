/-
  No cell of these rows narrows 'for every input' (looked for: loops, veiled, ifaces, maps, wideKeys, modest, calm, conditions, laid).
  DERIVED. THE GIVEN ROWS OF THIS SEAT. 6 by the template 'for every input the law returns true; each argument reads behind the call as it read before'; 0 by the template 'total and deterministic' (their statements: YteopkakjnjfheaaTotals.lean).
  GIVEN WITH THE SEED: the statements are not yours to turn. If you find one false, say at which input.
  Laid BY PROGRAM, IN A SANDBOX (cutbox-rows.mjs): the forced cells as the released guide's own fill.sh prints them over the translation 137c6c9f9a95364e… (all of the seat's roots in one cut). By AI agents, Wed Nov 11 2026. No macro, syntax, notation, axiom, sorry.
-/
import Derived.Test.YteopkakjnjfheaaChecked
import GoSem.Claim
import GoSem.ClaimJoined
import GoSem.ClaimMapViews
import Derived.JoinedTies
import Derived.KernelRfl
namespace Go.Proofs.Yteopkakjnjfheaa
/- THE CELL 'sum', in the pinned program and in every row, IS THE sha256 OF THE DUMP (.gsa) THAT YteopkakjnjfheaaProg.lean LOADS. Nothing in Lean hashes anything: it is a label: what it is worth is what the hold of that sum in a sandbox is worth. -/
noncomputable def Try.pinned : Pinned := { name := "yteopkakjnjfheaa", sum := "137c6c9f9a95364e58c1b2f4e7af394feff0f340a59b91c26ddd32f9450e98ae", checked := Try.checked }
namespace Rows
def none {H : Type} : Left H := { results := [], args := [] }

/-- 'valancelaw09.JustifyStarts': WHATEVER THE INPUT: true; the input reads as it did. -/
def justifyStartsSpec : ChangeSpec := { name := "justifyStarts", fn := fun _ => fun
  | [d1, d2, d3, d4, d5] => { results := [.lit (.bool true)], args := [d1, d2, d3, d4, d5] }
  | _ => none }
def justifyStartsRow : OpenClaim := { program := "yteopkakjnjfheaa", sum := "137c6c9f9a95364e58c1b2f4e7af394feff0f340a59b91c26ddd32f9450e98ae", func := "valance/valancelaw09.JustifyStarts", spec := "justifyStarts", unfollowed := true, recurses := true, apart := false }
def JustifyStartsSaid : Prop := justifyStartsRow.holds Try.pinned (OpenSpec.ofChange justifyStartsSpec)

/-- ITS FALSE NEIGHBOUR: 'it returns false'. Refute it at one input. -/
def justifyStartsWrong : ChangeSpec := { name := "justifyStarts", fn := fun _ => fun
  | [d1, d2, d3, d4, d5] => { results := [.lit (.bool false)], args := [d1, d2, d3, d4, d5] }
  | _ => none }
def JustifyStartsWrongFalsely : Prop := justifyStartsRow.holds Try.pinned (OpenSpec.ofChange justifyStartsWrong)

/-- 'valancelaw09.JustifyApart': WHATEVER THE INPUT: true; the input reads as it did. -/
def justifyApartSpec : ChangeSpec := { name := "justifyApart", fn := fun _ => fun
  | [d1, d2, d3, d4] => { results := [.lit (.bool true)], args := [d1, d2, d3, d4] }
  | _ => none }
def justifyApartRow : OpenClaim := { program := "yteopkakjnjfheaa", sum := "137c6c9f9a95364e58c1b2f4e7af394feff0f340a59b91c26ddd32f9450e98ae", func := "valance/valancelaw09.JustifyApart", spec := "justifyApart", unfollowed := true, recurses := true, apart := false }
def JustifyApartSaid : Prop := justifyApartRow.holds Try.pinned (OpenSpec.ofChange justifyApartSpec)

/-- ITS FALSE NEIGHBOUR: 'it returns false'. Refute it at one input. -/
def justifyApartWrong : ChangeSpec := { name := "justifyApart", fn := fun _ => fun
  | [d1, d2, d3, d4] => { results := [.lit (.bool false)], args := [d1, d2, d3, d4] }
  | _ => none }
def JustifyApartWrongFalsely : Prop := justifyApartRow.holds Try.pinned (OpenSpec.ofChange justifyApartWrong)

/-- 'valancelaw09.JustifyFlips': WHATEVER THE INPUT: true; the input reads as it did. -/
def justifyFlipsSpec : ChangeSpec := { name := "justifyFlips", fn := fun _ => fun
  | [d1, d2, d3, d4] => { results := [.lit (.bool true)], args := [d1, d2, d3, d4] }
  | _ => none }
def justifyFlipsRow : OpenClaim := { program := "yteopkakjnjfheaa", sum := "137c6c9f9a95364e58c1b2f4e7af394feff0f340a59b91c26ddd32f9450e98ae", func := "valance/valancelaw09.JustifyFlips", spec := "justifyFlips", unfollowed := true, recurses := true, apart := false }
def JustifyFlipsSaid : Prop := justifyFlipsRow.holds Try.pinned (OpenSpec.ofChange justifyFlipsSpec)

/-- ITS FALSE NEIGHBOUR: 'it returns false'. Refute it at one input. -/
def justifyFlipsWrong : ChangeSpec := { name := "justifyFlips", fn := fun _ => fun
  | [d1, d2, d3, d4] => { results := [.lit (.bool false)], args := [d1, d2, d3, d4] }
  | _ => none }
def JustifyFlipsWrongFalsely : Prop := justifyFlipsRow.holds Try.pinned (OpenSpec.ofChange justifyFlipsWrong)

/-- 'valancelaw09.JustifyCenter': WHATEVER THE INPUT: true; the input reads as it did. -/
def justifyCenterSpec : ChangeSpec := { name := "justifyCenter", fn := fun _ => fun
  | [d1, d2, d3, d4] => { results := [.lit (.bool true)], args := [d1, d2, d3, d4] }
  | _ => none }
def justifyCenterRow : OpenClaim := { program := "yteopkakjnjfheaa", sum := "137c6c9f9a95364e58c1b2f4e7af394feff0f340a59b91c26ddd32f9450e98ae", func := "valance/valancelaw09.JustifyCenter", spec := "justifyCenter", unfollowed := true, recurses := true, apart := false }
def JustifyCenterSaid : Prop := justifyCenterRow.holds Try.pinned (OpenSpec.ofChange justifyCenterSpec)

/-- ITS FALSE NEIGHBOUR: 'it returns false'. Refute it at one input. -/
def justifyCenterWrong : ChangeSpec := { name := "justifyCenter", fn := fun _ => fun
  | [d1, d2, d3, d4] => { results := [.lit (.bool false)], args := [d1, d2, d3, d4] }
  | _ => none }
def JustifyCenterWrongFalsely : Prop := justifyCenterRow.holds Try.pinned (OpenSpec.ofChange justifyCenterWrong)

/-- 'valancelaw09.JustifyEven': WHATEVER THE INPUT: true; the input reads as it did. -/
def justifyEvenSpec : ChangeSpec := { name := "justifyEven", fn := fun _ => fun
  | [d1, d2] => { results := [.lit (.bool true)], args := [d1, d2] }
  | _ => none }
def justifyEvenRow : OpenClaim := { program := "yteopkakjnjfheaa", sum := "137c6c9f9a95364e58c1b2f4e7af394feff0f340a59b91c26ddd32f9450e98ae", func := "valance/valancelaw09.JustifyEven", spec := "justifyEven", unfollowed := true, recurses := true, apart := false }
def JustifyEvenSaid : Prop := justifyEvenRow.holds Try.pinned (OpenSpec.ofChange justifyEvenSpec)

/-- ITS FALSE NEIGHBOUR: 'it returns false'. Refute it at one input. -/
def justifyEvenWrong : ChangeSpec := { name := "justifyEven", fn := fun _ => fun
  | [d1, d2] => { results := [.lit (.bool false)], args := [d1, d2] }
  | _ => none }
def JustifyEvenWrongFalsely : Prop := justifyEvenRow.holds Try.pinned (OpenSpec.ofChange justifyEvenWrong)

/-- 'valancelaw09.JustifyMore': WHATEVER THE INPUT: true; the input reads as it did. -/
def justifyMoreSpec : ChangeSpec := { name := "justifyMore", fn := fun _ => fun
  | [d1, d2, d3, d4, d5] => { results := [.lit (.bool true)], args := [d1, d2, d3, d4, d5] }
  | _ => none }
def justifyMoreRow : OpenClaim := { program := "yteopkakjnjfheaa", sum := "137c6c9f9a95364e58c1b2f4e7af394feff0f340a59b91c26ddd32f9450e98ae", func := "valance/valancelaw09.JustifyMore", spec := "justifyMore", unfollowed := true, recurses := true, apart := false }
def JustifyMoreSaid : Prop := justifyMoreRow.holds Try.pinned (OpenSpec.ofChange justifyMoreSpec)

/-- ITS FALSE NEIGHBOUR: 'it returns false'. Refute it at one input. -/
def justifyMoreWrong : ChangeSpec := { name := "justifyMore", fn := fun _ => fun
  | [d1, d2, d3, d4, d5] => { results := [.lit (.bool false)], args := [d1, d2, d3, d4, d5] }
  | _ => none }
def JustifyMoreWrongFalsely : Prop := justifyMoreRow.holds Try.pinned (OpenSpec.ofChange justifyMoreWrong)

/- THE SECOND FORM. 'bulk': how many values and letters a reading holds, each counted each time it is reached (what is shared counts as often as it is met; a slice's spare places count too). A statement '..UptoSaid' is the law's where the arguments, and the package variables that the reading takes, are together of bulk at most 1048576: NARROWER than '..Said'. Prove '..Said' where nothing that the law and all that it calls make is longer than what came in: it says more and counts as full. Else prove '..UptoSaid'. A law counts once. -/
mutual
def uptoBulk {H : Type} : DataW H → Nat
  | .lit (.string bytes) => bytes.length + 1
  | .lit _ => 1
  | .nil => 1
  | .ptr d => uptoBulk d + 1
  | .slice elems spare => uptoBulkAll elems + uptoBulkAll spare + 1
  | .agg parts => uptoBulkAll parts + 1
  | .iface _ d => uptoBulk d + 1
  | .map entries => uptoBulkEntries entries + 1
  | .held _ => 1
def uptoBulkAll {H : Type} : List (DataW H) → Nat
  | [] => 0
  | d :: r => uptoBulk d + uptoBulkAll r
def uptoBulkEntries {H : Type} : List (Lit × DataW H) → Nat
  | [] => 0
  | x :: r => uptoBulkEntry x + uptoBulkEntries r
def uptoBulkEntry {H : Type} : Lit × DataW H → Nat
  | (.string bytes, d) => bytes.length + uptoBulk d + 1
  | (_, d) => uptoBulk d + 1
 end
def uptoSmall : (H : Type) → List (DataW H) → Bool := fun _ ds => decide (uptoBulkAll ds ≤ 1048576)
def OpenSpec.upto (s : _root_.Go.ChangeSpec) : _root_.Go.OpenSpec := { _root_.Go.OpenSpec.ofChange s with cond := some uptoSmall }

/-- 'valancelaw09.JustifyStarts', WHERE WHAT IT READS IS OF BULK AT MOST 1048576: true; the input reads as it did. -/
def justifyStartsUptoRow : OpenClaim := { program := "yteopkakjnjfheaa", sum := "137c6c9f9a95364e58c1b2f4e7af394feff0f340a59b91c26ddd32f9450e98ae", func := "valance/valancelaw09.JustifyStarts", spec := "justifyStarts", unfollowed := true, recurses := true, apart := false, narrowed := true }
def JustifyStartsUptoSaid : Prop := justifyStartsUptoRow.holds Try.pinned (OpenSpec.upto justifyStartsSpec)

/-- 'valancelaw09.JustifyApart', WHERE WHAT IT READS IS OF BULK AT MOST 1048576: true; the input reads as it did. -/
def justifyApartUptoRow : OpenClaim := { program := "yteopkakjnjfheaa", sum := "137c6c9f9a95364e58c1b2f4e7af394feff0f340a59b91c26ddd32f9450e98ae", func := "valance/valancelaw09.JustifyApart", spec := "justifyApart", unfollowed := true, recurses := true, apart := false, narrowed := true }
def JustifyApartUptoSaid : Prop := justifyApartUptoRow.holds Try.pinned (OpenSpec.upto justifyApartSpec)

/-- 'valancelaw09.JustifyFlips', WHERE WHAT IT READS IS OF BULK AT MOST 1048576: true; the input reads as it did. -/
def justifyFlipsUptoRow : OpenClaim := { program := "yteopkakjnjfheaa", sum := "137c6c9f9a95364e58c1b2f4e7af394feff0f340a59b91c26ddd32f9450e98ae", func := "valance/valancelaw09.JustifyFlips", spec := "justifyFlips", unfollowed := true, recurses := true, apart := false, narrowed := true }
def JustifyFlipsUptoSaid : Prop := justifyFlipsUptoRow.holds Try.pinned (OpenSpec.upto justifyFlipsSpec)

/-- 'valancelaw09.JustifyCenter', WHERE WHAT IT READS IS OF BULK AT MOST 1048576: true; the input reads as it did. -/
def justifyCenterUptoRow : OpenClaim := { program := "yteopkakjnjfheaa", sum := "137c6c9f9a95364e58c1b2f4e7af394feff0f340a59b91c26ddd32f9450e98ae", func := "valance/valancelaw09.JustifyCenter", spec := "justifyCenter", unfollowed := true, recurses := true, apart := false, narrowed := true }
def JustifyCenterUptoSaid : Prop := justifyCenterUptoRow.holds Try.pinned (OpenSpec.upto justifyCenterSpec)

/-- 'valancelaw09.JustifyEven', WHERE WHAT IT READS IS OF BULK AT MOST 1048576: true; the input reads as it did. -/
def justifyEvenUptoRow : OpenClaim := { program := "yteopkakjnjfheaa", sum := "137c6c9f9a95364e58c1b2f4e7af394feff0f340a59b91c26ddd32f9450e98ae", func := "valance/valancelaw09.JustifyEven", spec := "justifyEven", unfollowed := true, recurses := true, apart := false, narrowed := true }
def JustifyEvenUptoSaid : Prop := justifyEvenUptoRow.holds Try.pinned (OpenSpec.upto justifyEvenSpec)

/-- 'valancelaw09.JustifyMore', WHERE WHAT IT READS IS OF BULK AT MOST 1048576: true; the input reads as it did. -/
def justifyMoreUptoRow : OpenClaim := { program := "yteopkakjnjfheaa", sum := "137c6c9f9a95364e58c1b2f4e7af394feff0f340a59b91c26ddd32f9450e98ae", func := "valance/valancelaw09.JustifyMore", spec := "justifyMore", unfollowed := true, recurses := true, apart := false, narrowed := true }
def JustifyMoreUptoSaid : Prop := justifyMoreUptoRow.holds Try.pinned (OpenSpec.upto justifyMoreSpec)

end Rows
end Go.Proofs.Yteopkakjnjfheaa

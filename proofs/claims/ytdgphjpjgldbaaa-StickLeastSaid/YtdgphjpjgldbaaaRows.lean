/-
  No cell of these rows narrows 'for every input' (looked for: loops, veiled, ifaces, maps, wideKeys, modest, calm, conditions, laid).
  DERIVED. THE GIVEN ROWS OF THIS SEAT. 6 by the template 'for every input the law returns true; each argument reads behind the call as it read before'; 0 by the template 'total and deterministic' (their statements: YtdgphjpjgldbaaaTotals.lean).
  GIVEN WITH THE SEED: the statements are not yours to turn. If you find one false, say at which input.
  Laid BY PROGRAM, IN A SANDBOX (cutbox-rows.mjs): the forced cells as the released guide's own fill.sh prints them over the translation 6c899fa66c0b9099… (all of the seat's roots in one cut). By AI agents, Wed Nov 11 2026. No macro, syntax, notation, axiom, sorry.
-/
import Derived.Test.YtdgphjpjgldbaaaChecked
import GoSem.Claim
import GoSem.ClaimJoined
import GoSem.ClaimMapViews
import Derived.JoinedTies
import Derived.KernelRfl
namespace Go.Proofs.Ytdgphjpjgldbaaa
/- THE CELL 'sum', in the pinned program and in every row, IS THE sha256 OF THE DUMP (.gsa) THAT YtdgphjpjgldbaaaProg.lean LOADS. Nothing in Lean hashes anything: it is a label: what it is worth is what the hold of that sum in a sandbox is worth. -/
noncomputable def Try.pinned : Pinned := { name := "ytdgphjpjgldbaaa", sum := "6c899fa66c0b9099054cb99c270d6ca2ea3bdd2e30927212e584e22d67e9e798", checked := Try.checked }
namespace Rows
def none {H : Type} : Left H := { results := [], args := [] }

/-- 'valancelaw10.StickShifts': WHATEVER THE INPUT: true; the input reads as it did. -/
def stickShiftsSpec : ChangeSpec := { name := "stickShifts", fn := fun _ => fun
  | [d1, d2, d3, d4, d5] => { results := [.lit (.bool true)], args := [d1, d2, d3, d4, d5] }
  | _ => none }
def stickShiftsRow : OpenClaim := { program := "ytdgphjpjgldbaaa", sum := "6c899fa66c0b9099054cb99c270d6ca2ea3bdd2e30927212e584e22d67e9e798", func := "valance/valancelaw10.StickShifts", spec := "stickShifts", unfollowed := true, recurses := true, apart := false }
def StickShiftsSaid : Prop := stickShiftsRow.holds Try.pinned (OpenSpec.ofChange stickShiftsSpec)

/-- ITS FALSE NEIGHBOUR: 'it returns false'. Refute it at one input. -/
def stickShiftsWrong : ChangeSpec := { name := "stickShifts", fn := fun _ => fun
  | [d1, d2, d3, d4, d5] => { results := [.lit (.bool false)], args := [d1, d2, d3, d4, d5] }
  | _ => none }
def StickShiftsWrongFalsely : Prop := stickShiftsRow.holds Try.pinned (OpenSpec.ofChange stickShiftsWrong)

/-- 'valancelaw10.StickBoth': WHATEVER THE INPUT: true; the input reads as it did. -/
def stickBothSpec : ChangeSpec := { name := "stickBoth", fn := fun _ => fun
  | [d1, d2, d3, d4, d5, d6] => { results := [.lit (.bool true)], args := [d1, d2, d3, d4, d5, d6] }
  | _ => none }
def stickBothRow : OpenClaim := { program := "ytdgphjpjgldbaaa", sum := "6c899fa66c0b9099054cb99c270d6ca2ea3bdd2e30927212e584e22d67e9e798", func := "valance/valancelaw10.StickBoth", spec := "stickBoth", unfollowed := true, recurses := true, apart := false }
def StickBothSaid : Prop := stickBothRow.holds Try.pinned (OpenSpec.ofChange stickBothSpec)

/-- ITS FALSE NEIGHBOUR: 'it returns false'. Refute it at one input. -/
def stickBothWrong : ChangeSpec := { name := "stickBoth", fn := fun _ => fun
  | [d1, d2, d3, d4, d5, d6] => { results := [.lit (.bool false)], args := [d1, d2, d3, d4, d5, d6] }
  | _ => none }
def StickBothWrongFalsely : Prop := stickBothRow.holds Try.pinned (OpenSpec.ofChange stickBothWrong)

/-- 'valancelaw10.StickWithin': WHATEVER THE INPUT: true; the input reads as it did. -/
def stickWithinSpec : ChangeSpec := { name := "stickWithin", fn := fun _ => fun
  | [d1, d2, d3, d4, d5] => { results := [.lit (.bool true)], args := [d1, d2, d3, d4, d5] }
  | _ => none }
def stickWithinRow : OpenClaim := { program := "ytdgphjpjgldbaaa", sum := "6c899fa66c0b9099054cb99c270d6ca2ea3bdd2e30927212e584e22d67e9e798", func := "valance/valancelaw10.StickWithin", spec := "stickWithin", unfollowed := true, recurses := true, apart := false }
def StickWithinSaid : Prop := stickWithinRow.holds Try.pinned (OpenSpec.ofChange stickWithinSpec)

/-- ITS FALSE NEIGHBOUR: 'it returns false'. Refute it at one input. -/
def stickWithinWrong : ChangeSpec := { name := "stickWithin", fn := fun _ => fun
  | [d1, d2, d3, d4, d5] => { results := [.lit (.bool false)], args := [d1, d2, d3, d4, d5] }
  | _ => none }
def StickWithinWrongFalsely : Prop := stickWithinRow.holds Try.pinned (OpenSpec.ofChange stickWithinWrong)

/-- 'valancelaw10.StickLeast': WHATEVER THE INPUT: true; the input reads as it did. -/
def stickLeastSpec : ChangeSpec := { name := "stickLeast", fn := fun _ => fun
  | [d1, d2, d3, d4, d5] => { results := [.lit (.bool true)], args := [d1, d2, d3, d4, d5] }
  | _ => none }
def stickLeastRow : OpenClaim := { program := "ytdgphjpjgldbaaa", sum := "6c899fa66c0b9099054cb99c270d6ca2ea3bdd2e30927212e584e22d67e9e798", func := "valance/valancelaw10.StickLeast", spec := "stickLeast", unfollowed := true, recurses := true, apart := false }
def StickLeastSaid : Prop := stickLeastRow.holds Try.pinned (OpenSpec.ofChange stickLeastSpec)

/-- ITS FALSE NEIGHBOUR: 'it returns false'. Refute it at one input. -/
def stickLeastWrong : ChangeSpec := { name := "stickLeast", fn := fun _ => fun
  | [d1, d2, d3, d4, d5] => { results := [.lit (.bool false)], args := [d1, d2, d3, d4, d5] }
  | _ => none }
def StickLeastWrongFalsely : Prop := stickLeastRow.holds Try.pinned (OpenSpec.ofChange stickLeastWrong)

/-- 'valancelaw10.StickMore': WHATEVER THE INPUT: true; the input reads as it did. -/
def stickMoreSpec : ChangeSpec := { name := "stickMore", fn := fun _ => fun
  | [d1, d2, d3, d4, d5] => { results := [.lit (.bool true)], args := [d1, d2, d3, d4, d5] }
  | _ => none }
def stickMoreRow : OpenClaim := { program := "ytdgphjpjgldbaaa", sum := "6c899fa66c0b9099054cb99c270d6ca2ea3bdd2e30927212e584e22d67e9e798", func := "valance/valancelaw10.StickMore", spec := "stickMore", unfollowed := true, recurses := true, apart := false }
def StickMoreSaid : Prop := stickMoreRow.holds Try.pinned (OpenSpec.ofChange stickMoreSpec)

/-- ITS FALSE NEIGHBOUR: 'it returns false'. Refute it at one input. -/
def stickMoreWrong : ChangeSpec := { name := "stickMore", fn := fun _ => fun
  | [d1, d2, d3, d4, d5] => { results := [.lit (.bool false)], args := [d1, d2, d3, d4, d5] }
  | _ => none }
def StickMoreWrongFalsely : Prop := stickMoreRow.holds Try.pinned (OpenSpec.ofChange stickMoreWrong)

/-- 'valancelaw10.StickMoves': WHATEVER THE INPUT: true; the input reads as it did. -/
def stickMovesSpec : ChangeSpec := { name := "stickMoves", fn := fun _ => fun
  | [d1, d2, d3, d4, d5, d6] => { results := [.lit (.bool true)], args := [d1, d2, d3, d4, d5, d6] }
  | _ => none }
def stickMovesRow : OpenClaim := { program := "ytdgphjpjgldbaaa", sum := "6c899fa66c0b9099054cb99c270d6ca2ea3bdd2e30927212e584e22d67e9e798", func := "valance/valancelaw10.StickMoves", spec := "stickMoves", unfollowed := true, recurses := true, apart := false }
def StickMovesSaid : Prop := stickMovesRow.holds Try.pinned (OpenSpec.ofChange stickMovesSpec)

/-- ITS FALSE NEIGHBOUR: 'it returns false'. Refute it at one input. -/
def stickMovesWrong : ChangeSpec := { name := "stickMoves", fn := fun _ => fun
  | [d1, d2, d3, d4, d5, d6] => { results := [.lit (.bool false)], args := [d1, d2, d3, d4, d5, d6] }
  | _ => none }
def StickMovesWrongFalsely : Prop := stickMovesRow.holds Try.pinned (OpenSpec.ofChange stickMovesWrong)

/- THE SECOND FORM. 'bulk': how many values and letters a reading holds, each counted each time it is reached (what is shared counts as often as it is met; a slice's spare places count too). A statement '..UptoSaid' is the law's where the arguments, and the package variables that the reading takes, are together of bulk at most 1048576: NARROWER than '..Said'. Prove '..Said' where nothing that the law and all that it calls make is longer than what came in: it says more and counts as full. Else prove '..UptoSaid'. A law counts once. -/
mutual
def uptoBulk {H : Type} : DataW H → Nat
  | .lit (.string bytes) => bytes.length + 1
  | .lit _ => 1
  | .nil => 1
  | .ptr d => uptoBulk d + 1
  | .slice elems spare => uptoBulkAll elems + uptoBulkAll spare + 1
  | .agg parts => uptoBulkAll parts + 1
  | .iface _ d => uptoBulk d + 1
  | .map entries => uptoBulkEntries entries + 1
  | .held _ => 1
def uptoBulkAll {H : Type} : List (DataW H) → Nat
  | [] => 0
  | d :: r => uptoBulk d + uptoBulkAll r
def uptoBulkEntries {H : Type} : List (Lit × DataW H) → Nat
  | [] => 0
  | x :: r => uptoBulkEntry x + uptoBulkEntries r
def uptoBulkEntry {H : Type} : Lit × DataW H → Nat
  | (.string bytes, d) => bytes.length + uptoBulk d + 1
  | (_, d) => uptoBulk d + 1
 end
def uptoSmall : (H : Type) → List (DataW H) → Bool := fun _ ds => decide (uptoBulkAll ds ≤ 1048576)
def OpenSpec.upto (s : _root_.Go.ChangeSpec) : _root_.Go.OpenSpec := { _root_.Go.OpenSpec.ofChange s with cond := some uptoSmall }

/-- 'valancelaw10.StickShifts', WHERE WHAT IT READS IS OF BULK AT MOST 1048576: true; the input reads as it did. -/
def stickShiftsUptoRow : OpenClaim := { program := "ytdgphjpjgldbaaa", sum := "6c899fa66c0b9099054cb99c270d6ca2ea3bdd2e30927212e584e22d67e9e798", func := "valance/valancelaw10.StickShifts", spec := "stickShifts", unfollowed := true, recurses := true, apart := false, narrowed := true }
def StickShiftsUptoSaid : Prop := stickShiftsUptoRow.holds Try.pinned (OpenSpec.upto stickShiftsSpec)

/-- 'valancelaw10.StickBoth', WHERE WHAT IT READS IS OF BULK AT MOST 1048576: true; the input reads as it did. -/
def stickBothUptoRow : OpenClaim := { program := "ytdgphjpjgldbaaa", sum := "6c899fa66c0b9099054cb99c270d6ca2ea3bdd2e30927212e584e22d67e9e798", func := "valance/valancelaw10.StickBoth", spec := "stickBoth", unfollowed := true, recurses := true, apart := false, narrowed := true }
def StickBothUptoSaid : Prop := stickBothUptoRow.holds Try.pinned (OpenSpec.upto stickBothSpec)

/-- 'valancelaw10.StickWithin', WHERE WHAT IT READS IS OF BULK AT MOST 1048576: true; the input reads as it did. -/
def stickWithinUptoRow : OpenClaim := { program := "ytdgphjpjgldbaaa", sum := "6c899fa66c0b9099054cb99c270d6ca2ea3bdd2e30927212e584e22d67e9e798", func := "valance/valancelaw10.StickWithin", spec := "stickWithin", unfollowed := true, recurses := true, apart := false, narrowed := true }
def StickWithinUptoSaid : Prop := stickWithinUptoRow.holds Try.pinned (OpenSpec.upto stickWithinSpec)

/-- 'valancelaw10.StickLeast', WHERE WHAT IT READS IS OF BULK AT MOST 1048576: true; the input reads as it did. -/
def stickLeastUptoRow : OpenClaim := { program := "ytdgphjpjgldbaaa", sum := "6c899fa66c0b9099054cb99c270d6ca2ea3bdd2e30927212e584e22d67e9e798", func := "valance/valancelaw10.StickLeast", spec := "stickLeast", unfollowed := true, recurses := true, apart := false, narrowed := true }
def StickLeastUptoSaid : Prop := stickLeastUptoRow.holds Try.pinned (OpenSpec.upto stickLeastSpec)

/-- 'valancelaw10.StickMore', WHERE WHAT IT READS IS OF BULK AT MOST 1048576: true; the input reads as it did. -/
def stickMoreUptoRow : OpenClaim := { program := "ytdgphjpjgldbaaa", sum := "6c899fa66c0b9099054cb99c270d6ca2ea3bdd2e30927212e584e22d67e9e798", func := "valance/valancelaw10.StickMore", spec := "stickMore", unfollowed := true, recurses := true, apart := false, narrowed := true }
def StickMoreUptoSaid : Prop := stickMoreUptoRow.holds Try.pinned (OpenSpec.upto stickMoreSpec)

/-- 'valancelaw10.StickMoves', WHERE WHAT IT READS IS OF BULK AT MOST 1048576: true; the input reads as it did. -/
def stickMovesUptoRow : OpenClaim := { program := "ytdgphjpjgldbaaa", sum := "6c899fa66c0b9099054cb99c270d6ca2ea3bdd2e30927212e584e22d67e9e798", func := "valance/valancelaw10.StickMoves", spec := "stickMoves", unfollowed := true, recurses := true, apart := false, narrowed := true }
def StickMovesUptoSaid : Prop := stickMovesUptoRow.holds Try.pinned (OpenSpec.upto stickMovesSpec)

end Rows
end Go.Proofs.Ytdgphjpjgldbaaa

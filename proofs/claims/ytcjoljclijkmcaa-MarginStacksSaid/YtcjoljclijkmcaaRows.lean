/-
  No cell of these rows narrows 'for every input' (looked for: loops, veiled, ifaces, maps, wideKeys, modest, calm, conditions, laid).
  DERIVED. THE GIVEN ROWS OF THIS SEAT. 6 by the template 'for every input the law returns true; each argument reads behind the call as it read before'; 0 by the template 'total and deterministic' (their statements: YtcjoljclijkmcaaTotals.lean).
  GIVEN WITH THE SEED: the statements are not yours to turn. If you find one false, say at which input.
  Laid BY PROGRAM, IN A SANDBOX (cutbox-rows.mjs): the forced cells as the released guide's own fill.sh prints them over the translation 1c9e651487a7a1b1… (all of the seat's roots in one cut). By AI agents, Wed Nov 11 2026. No macro, syntax, notation, axiom, sorry.
-/
import Derived.Test.YtcjoljclijkmcaaChecked
import GoSem.Claim
import GoSem.ClaimJoined
import GoSem.ClaimMapViews
import Derived.JoinedTies
import Derived.KernelRfl
namespace Go.Proofs.Ytcjoljclijkmcaa
/- THE CELL 'sum', in the pinned program and in every row, IS THE sha256 OF THE DUMP (.gsa) THAT YtcjoljclijkmcaaProg.lean LOADS. Nothing in Lean hashes anything: it is a label: what it is worth is what the hold of that sum in a sandbox is worth. -/
noncomputable def Try.pinned : Pinned := { name := "ytcjoljclijkmcaa", sum := "1c9e651487a7a1b1950e816d4d3b9885a6cd920109e6b9db5c667d27c82bf2c7", checked := Try.checked }
namespace Rows
def none {H : Type} : Left H := { results := [], args := [] }

/-- 'valancelaw06.MarginTells': WHATEVER THE INPUT: true; the input reads as it did. -/
def marginTellsSpec : ChangeSpec := { name := "marginTells", fn := fun _ => fun
  | [d1, d2, d3, d4, d5, d6] => { results := [.lit (.bool true)], args := [d1, d2, d3, d4, d5, d6] }
  | _ => none }
def marginTellsRow : OpenClaim := { program := "ytcjoljclijkmcaa", sum := "1c9e651487a7a1b1950e816d4d3b9885a6cd920109e6b9db5c667d27c82bf2c7", func := "valance/valancelaw06.MarginTells", spec := "marginTells", apart := false }
def MarginTellsSaid : Prop := marginTellsRow.holds Try.pinned (OpenSpec.ofChange marginTellsSpec)

/-- ITS FALSE NEIGHBOUR: 'it returns false'. Refute it at one input. -/
def marginTellsWrong : ChangeSpec := { name := "marginTells", fn := fun _ => fun
  | [d1, d2, d3, d4, d5, d6] => { results := [.lit (.bool false)], args := [d1, d2, d3, d4, d5, d6] }
  | _ => none }
def MarginTellsWrongFalsely : Prop := marginTellsRow.holds Try.pinned (OpenSpec.ofChange marginTellsWrong)

/-- 'valancelaw06.MarginStacks': WHATEVER THE INPUT: true; the input reads as it did. -/
def marginStacksSpec : ChangeSpec := { name := "marginStacks", fn := fun _ => fun
  | [d1, d2, d3] => { results := [.lit (.bool true)], args := [d1, d2, d3] }
  | _ => none }
def marginStacksRow : OpenClaim := { program := "ytcjoljclijkmcaa", sum := "1c9e651487a7a1b1950e816d4d3b9885a6cd920109e6b9db5c667d27c82bf2c7", func := "valance/valancelaw06.MarginStacks", spec := "marginStacks", apart := false }
def MarginStacksSaid : Prop := marginStacksRow.holds Try.pinned (OpenSpec.ofChange marginStacksSpec)

/-- ITS FALSE NEIGHBOUR: 'it returns false'. Refute it at one input. -/
def marginStacksWrong : ChangeSpec := { name := "marginStacks", fn := fun _ => fun
  | [d1, d2, d3] => { results := [.lit (.bool false)], args := [d1, d2, d3] }
  | _ => none }
def MarginStacksWrongFalsely : Prop := marginStacksRow.holds Try.pinned (OpenSpec.ofChange marginStacksWrong)

/-- 'valancelaw06.MarginOrder': WHATEVER THE INPUT: true; the input reads as it did. -/
def marginOrderSpec : ChangeSpec := { name := "marginOrder", fn := fun _ => fun
  | [d1, d2] => { results := [.lit (.bool true)], args := [d1, d2] }
  | _ => none }
def marginOrderRow : OpenClaim := { program := "ytcjoljclijkmcaa", sum := "1c9e651487a7a1b1950e816d4d3b9885a6cd920109e6b9db5c667d27c82bf2c7", func := "valance/valancelaw06.MarginOrder", spec := "marginOrder", apart := false }
def MarginOrderSaid : Prop := marginOrderRow.holds Try.pinned (OpenSpec.ofChange marginOrderSpec)

/-- ITS FALSE NEIGHBOUR: 'it returns false'. Refute it at one input. -/
def marginOrderWrong : ChangeSpec := { name := "marginOrder", fn := fun _ => fun
  | [d1, d2] => { results := [.lit (.bool false)], args := [d1, d2] }
  | _ => none }
def MarginOrderWrongFalsely : Prop := marginOrderRow.holds Try.pinned (OpenSpec.ofChange marginOrderWrong)

/-- 'valancelaw06.MarginRoom': WHATEVER THE INPUT: true; the input reads as it did. -/
def marginRoomSpec : ChangeSpec := { name := "marginRoom", fn := fun _ => fun
  | [d1, d2, d3, d4, d5] => { results := [.lit (.bool true)], args := [d1, d2, d3, d4, d5] }
  | _ => none }
def marginRoomRow : OpenClaim := { program := "ytcjoljclijkmcaa", sum := "1c9e651487a7a1b1950e816d4d3b9885a6cd920109e6b9db5c667d27c82bf2c7", func := "valance/valancelaw06.MarginRoom", spec := "marginRoom", apart := false }
def MarginRoomSaid : Prop := marginRoomRow.holds Try.pinned (OpenSpec.ofChange marginRoomSpec)

/-- ITS FALSE NEIGHBOUR: 'it returns false'. Refute it at one input. -/
def marginRoomWrong : ChangeSpec := { name := "marginRoom", fn := fun _ => fun
  | [d1, d2, d3, d4, d5] => { results := [.lit (.bool false)], args := [d1, d2, d3, d4, d5] }
  | _ => none }
def MarginRoomWrongFalsely : Prop := marginRoomRow.holds Try.pinned (OpenSpec.ofChange marginRoomWrong)

/-- 'valancelaw06.MarginPairs': WHATEVER THE INPUT: true; the input reads as it did. -/
def marginPairsSpec : ChangeSpec := { name := "marginPairs", fn := fun _ => fun
  | [d1, d2] => { results := [.lit (.bool true)], args := [d1, d2] }
  | _ => none }
def marginPairsRow : OpenClaim := { program := "ytcjoljclijkmcaa", sum := "1c9e651487a7a1b1950e816d4d3b9885a6cd920109e6b9db5c667d27c82bf2c7", func := "valance/valancelaw06.MarginPairs", spec := "marginPairs", apart := false }
def MarginPairsSaid : Prop := marginPairsRow.holds Try.pinned (OpenSpec.ofChange marginPairsSpec)

/-- ITS FALSE NEIGHBOUR: 'it returns false'. Refute it at one input. -/
def marginPairsWrong : ChangeSpec := { name := "marginPairs", fn := fun _ => fun
  | [d1, d2] => { results := [.lit (.bool false)], args := [d1, d2] }
  | _ => none }
def MarginPairsWrongFalsely : Prop := marginPairsRow.holds Try.pinned (OpenSpec.ofChange marginPairsWrong)

/-- 'valancelaw06.MarginStep': WHATEVER THE INPUT: true; the input reads as it did. -/
def marginStepSpec : ChangeSpec := { name := "marginStep", fn := fun _ => fun
  | [d1, d2, d3, d4, d5, d6] => { results := [.lit (.bool true)], args := [d1, d2, d3, d4, d5, d6] }
  | _ => none }
def marginStepRow : OpenClaim := { program := "ytcjoljclijkmcaa", sum := "1c9e651487a7a1b1950e816d4d3b9885a6cd920109e6b9db5c667d27c82bf2c7", func := "valance/valancelaw06.MarginStep", spec := "marginStep", apart := false }
def MarginStepSaid : Prop := marginStepRow.holds Try.pinned (OpenSpec.ofChange marginStepSpec)

/-- ITS FALSE NEIGHBOUR: 'it returns false'. Refute it at one input. -/
def marginStepWrong : ChangeSpec := { name := "marginStep", fn := fun _ => fun
  | [d1, d2, d3, d4, d5, d6] => { results := [.lit (.bool false)], args := [d1, d2, d3, d4, d5, d6] }
  | _ => none }
def MarginStepWrongFalsely : Prop := marginStepRow.holds Try.pinned (OpenSpec.ofChange marginStepWrong)

/- THE SECOND FORM. 'bulk': how many values and letters a reading holds, each counted each time it is reached (what is shared counts as often as it is met; a slice's spare places count too). A statement '..UptoSaid' is the law's where the arguments, and the package variables that the reading takes, are together of bulk at most 1048576: NARROWER than '..Said'. Prove '..Said' where nothing that the law and all that it calls make is longer than what came in: it says more and counts as full. Else prove '..UptoSaid'. A law counts once. -/
mutual
def uptoBulk {H : Type} : DataW H → Nat
  | .lit (.string bytes) => bytes.length + 1
  | .lit _ => 1
  | .nil => 1
  | .ptr d => uptoBulk d + 1
  | .slice elems spare => uptoBulkAll elems + uptoBulkAll spare + 1
  | .agg parts => uptoBulkAll parts + 1
  | .iface _ d => uptoBulk d + 1
  | .map entries => uptoBulkEntries entries + 1
  | .held _ => 1
def uptoBulkAll {H : Type} : List (DataW H) → Nat
  | [] => 0
  | d :: r => uptoBulk d + uptoBulkAll r
def uptoBulkEntries {H : Type} : List (Lit × DataW H) → Nat
  | [] => 0
  | x :: r => uptoBulkEntry x + uptoBulkEntries r
def uptoBulkEntry {H : Type} : Lit × DataW H → Nat
  | (.string bytes, d) => bytes.length + uptoBulk d + 1
  | (_, d) => uptoBulk d + 1
 end
def uptoSmall : (H : Type) → List (DataW H) → Bool := fun _ ds => decide (uptoBulkAll ds ≤ 1048576)
def OpenSpec.upto (s : _root_.Go.ChangeSpec) : _root_.Go.OpenSpec := { _root_.Go.OpenSpec.ofChange s with cond := some uptoSmall }

/-- 'valancelaw06.MarginTells', WHERE WHAT IT READS IS OF BULK AT MOST 1048576: true; the input reads as it did. -/
def marginTellsUptoRow : OpenClaim := { program := "ytcjoljclijkmcaa", sum := "1c9e651487a7a1b1950e816d4d3b9885a6cd920109e6b9db5c667d27c82bf2c7", func := "valance/valancelaw06.MarginTells", spec := "marginTells", apart := false, narrowed := true }
def MarginTellsUptoSaid : Prop := marginTellsUptoRow.holds Try.pinned (OpenSpec.upto marginTellsSpec)

/-- 'valancelaw06.MarginStacks', WHERE WHAT IT READS IS OF BULK AT MOST 1048576: true; the input reads as it did. -/
def marginStacksUptoRow : OpenClaim := { program := "ytcjoljclijkmcaa", sum := "1c9e651487a7a1b1950e816d4d3b9885a6cd920109e6b9db5c667d27c82bf2c7", func := "valance/valancelaw06.MarginStacks", spec := "marginStacks", apart := false, narrowed := true }
def MarginStacksUptoSaid : Prop := marginStacksUptoRow.holds Try.pinned (OpenSpec.upto marginStacksSpec)

/-- 'valancelaw06.MarginOrder', WHERE WHAT IT READS IS OF BULK AT MOST 1048576: true; the input reads as it did. -/
def marginOrderUptoRow : OpenClaim := { program := "ytcjoljclijkmcaa", sum := "1c9e651487a7a1b1950e816d4d3b9885a6cd920109e6b9db5c667d27c82bf2c7", func := "valance/valancelaw06.MarginOrder", spec := "marginOrder", apart := false, narrowed := true }
def MarginOrderUptoSaid : Prop := marginOrderUptoRow.holds Try.pinned (OpenSpec.upto marginOrderSpec)

/-- 'valancelaw06.MarginRoom', WHERE WHAT IT READS IS OF BULK AT MOST 1048576: true; the input reads as it did. -/
def marginRoomUptoRow : OpenClaim := { program := "ytcjoljclijkmcaa", sum := "1c9e651487a7a1b1950e816d4d3b9885a6cd920109e6b9db5c667d27c82bf2c7", func := "valance/valancelaw06.MarginRoom", spec := "marginRoom", apart := false, narrowed := true }
def MarginRoomUptoSaid : Prop := marginRoomUptoRow.holds Try.pinned (OpenSpec.upto marginRoomSpec)

/-- 'valancelaw06.MarginPairs', WHERE WHAT IT READS IS OF BULK AT MOST 1048576: true; the input reads as it did. -/
def marginPairsUptoRow : OpenClaim := { program := "ytcjoljclijkmcaa", sum := "1c9e651487a7a1b1950e816d4d3b9885a6cd920109e6b9db5c667d27c82bf2c7", func := "valance/valancelaw06.MarginPairs", spec := "marginPairs", apart := false, narrowed := true }
def MarginPairsUptoSaid : Prop := marginPairsUptoRow.holds Try.pinned (OpenSpec.upto marginPairsSpec)

/-- 'valancelaw06.MarginStep', WHERE WHAT IT READS IS OF BULK AT MOST 1048576: true; the input reads as it did. -/
def marginStepUptoRow : OpenClaim := { program := "ytcjoljclijkmcaa", sum := "1c9e651487a7a1b1950e816d4d3b9885a6cd920109e6b9db5c667d27c82bf2c7", func := "valance/valancelaw06.MarginStep", spec := "marginStep", apart := false, narrowed := true }
def MarginStepUptoSaid : Prop := marginStepUptoRow.holds Try.pinned (OpenSpec.upto marginStepSpec)

end Rows
end Go.Proofs.Ytcjoljclijkmcaa

/-
  No cell of these rows narrows 'for every input' (looked for: loops, veiled, ifaces, maps, wideKeys, modest, calm, conditions, laid).
  DERIVED. THE GIVEN ROWS OF THIS SEAT. 7 by the template 'for every input the law returns true; each argument reads behind the call as it read before'; 0 by the template 'total and deterministic' (their statements: YtefofdjkinbfgaaTotals.lean).
  GIVEN WITH THE SEED: the statements are not yours to turn. If you find one false, say at which input.
  Laid BY PROGRAM, IN A SANDBOX (cutbox-rows.mjs): the forced cells as the released guide's own fill.sh prints them over the translation c9ed287ca1641fbf… (all of the seat's roots in one cut). By AI agents, Wed Nov 11 2026. No macro, syntax, notation, axiom, sorry.
-/
import Derived.Test.YtefofdjkinbfgaaChecked
import GoSem.Claim
import GoSem.ClaimJoined
import GoSem.ClaimMapViews
import Derived.JoinedTies
import Derived.KernelRfl
namespace Go.Proofs.Ytefofdjkinbfgaa
/- THE CELL 'sum', in the pinned program and in every row, IS THE sha256 OF THE DUMP (.gsa) THAT YtefofdjkinbfgaaProg.lean LOADS. Nothing in Lean hashes anything: it is a label: what it is worth is what the hold of that sum in a sandbox is worth. -/
noncomputable def Try.pinned : Pinned := { name := "ytefofdjkinbfgaa", sum := "c9ed287ca1641fbfde5c6a11c7f1d263992b793823259307ef2521cf47a88b41", checked := Try.checked }
namespace Rows
def none {H : Type} : Left H := { results := [], args := [] }

/-- 'valancelaw08.FlexSizes': WHATEVER THE INPUT: true; the input reads as it did. -/
def flexSizesSpec : ChangeSpec := { name := "flexSizes", fn := fun _ => fun
  | [d1, d2, d3] => { results := [.lit (.bool true)], args := [d1, d2, d3] }
  | _ => none }
def flexSizesRow : OpenClaim := { program := "ytefofdjkinbfgaa", sum := "c9ed287ca1641fbfde5c6a11c7f1d263992b793823259307ef2521cf47a88b41", func := "valance/valancelaw08.FlexSizes", spec := "flexSizes", unfollowed := true, recurses := true, apart := false }
def FlexSizesSaid : Prop := flexSizesRow.holds Try.pinned (OpenSpec.ofChange flexSizesSpec)

/-- ITS FALSE NEIGHBOUR: 'it returns false'. Refute it at one input. -/
def flexSizesWrong : ChangeSpec := { name := "flexSizes", fn := fun _ => fun
  | [d1, d2, d3] => { results := [.lit (.bool false)], args := [d1, d2, d3] }
  | _ => none }
def FlexSizesWrongFalsely : Prop := flexSizesRow.holds Try.pinned (OpenSpec.ofChange flexSizesWrong)

/-- 'valancelaw08.FlexShares': WHATEVER THE INPUT: true; the input reads as it did. -/
def flexSharesSpec : ChangeSpec := { name := "flexShares", fn := fun _ => fun
  | [d1, d2] => { results := [.lit (.bool true)], args := [d1, d2] }
  | _ => none }
def flexSharesRow : OpenClaim := { program := "ytefofdjkinbfgaa", sum := "c9ed287ca1641fbfde5c6a11c7f1d263992b793823259307ef2521cf47a88b41", func := "valance/valancelaw08.FlexShares", spec := "flexShares", unfollowed := true, recurses := true, apart := false }
def FlexSharesSaid : Prop := flexSharesRow.holds Try.pinned (OpenSpec.ofChange flexSharesSpec)

/-- ITS FALSE NEIGHBOUR: 'it returns false'. Refute it at one input. -/
def flexSharesWrong : ChangeSpec := { name := "flexShares", fn := fun _ => fun
  | [d1, d2] => { results := [.lit (.bool false)], args := [d1, d2] }
  | _ => none }
def FlexSharesWrongFalsely : Prop := flexSharesRow.holds Try.pinned (OpenSpec.ofChange flexSharesWrong)

/-- 'valancelaw08.FlexWithin': WHATEVER THE INPUT: true; the input reads as it did. -/
def flexWithinSpec : ChangeSpec := { name := "flexWithin", fn := fun _ => fun
  | [d1, d2] => { results := [.lit (.bool true)], args := [d1, d2] }
  | _ => none }
def flexWithinRow : OpenClaim := { program := "ytefofdjkinbfgaa", sum := "c9ed287ca1641fbfde5c6a11c7f1d263992b793823259307ef2521cf47a88b41", func := "valance/valancelaw08.FlexWithin", spec := "flexWithin", unfollowed := true, recurses := true, apart := false }
def FlexWithinSaid : Prop := flexWithinRow.holds Try.pinned (OpenSpec.ofChange flexWithinSpec)

/-- ITS FALSE NEIGHBOUR: 'it returns false'. Refute it at one input. -/
def flexWithinWrong : ChangeSpec := { name := "flexWithin", fn := fun _ => fun
  | [d1, d2] => { results := [.lit (.bool false)], args := [d1, d2] }
  | _ => none }
def FlexWithinWrongFalsely : Prop := flexWithinRow.holds Try.pinned (OpenSpec.ofChange flexWithinWrong)

/-- 'valancelaw08.FlexFills': WHATEVER THE INPUT: true; the input reads as it did. -/
def flexFillsSpec : ChangeSpec := { name := "flexFills", fn := fun _ => fun
  | [d1, d2, d3, d4] => { results := [.lit (.bool true)], args := [d1, d2, d3, d4] }
  | _ => none }
def flexFillsRow : OpenClaim := { program := "ytefofdjkinbfgaa", sum := "c9ed287ca1641fbfde5c6a11c7f1d263992b793823259307ef2521cf47a88b41", func := "valance/valancelaw08.FlexFills", spec := "flexFills", unfollowed := true, recurses := true, apart := false }
def FlexFillsSaid : Prop := flexFillsRow.holds Try.pinned (OpenSpec.ofChange flexFillsSpec)

/-- ITS FALSE NEIGHBOUR: 'it returns false'. Refute it at one input. -/
def flexFillsWrong : ChangeSpec := { name := "flexFills", fn := fun _ => fun
  | [d1, d2, d3, d4] => { results := [.lit (.bool false)], args := [d1, d2, d3, d4] }
  | _ => none }
def FlexFillsWrongFalsely : Prop := flexFillsRow.holds Try.pinned (OpenSpec.ofChange flexFillsWrong)

/-- 'valancelaw08.FlexAlike': WHATEVER THE INPUT: true; the input reads as it did. -/
def flexAlikeSpec : ChangeSpec := { name := "flexAlike", fn := fun _ => fun
  | [d1, d2, d3] => { results := [.lit (.bool true)], args := [d1, d2, d3] }
  | _ => none }
def flexAlikeRow : OpenClaim := { program := "ytefofdjkinbfgaa", sum := "c9ed287ca1641fbfde5c6a11c7f1d263992b793823259307ef2521cf47a88b41", func := "valance/valancelaw08.FlexAlike", spec := "flexAlike", unfollowed := true, recurses := true, apart := false }
def FlexAlikeSaid : Prop := flexAlikeRow.holds Try.pinned (OpenSpec.ofChange flexAlikeSpec)

/-- ITS FALSE NEIGHBOUR: 'it returns false'. Refute it at one input. -/
def flexAlikeWrong : ChangeSpec := { name := "flexAlike", fn := fun _ => fun
  | [d1, d2, d3] => { results := [.lit (.bool false)], args := [d1, d2, d3] }
  | _ => none }
def FlexAlikeWrongFalsely : Prop := flexAlikeRow.holds Try.pinned (OpenSpec.ofChange flexAlikeWrong)

/-- 'valancelaw08.FlexStill': WHATEVER THE INPUT: true; the input reads as it did. -/
def flexStillSpec : ChangeSpec := { name := "flexStill", fn := fun _ => fun
  | [d] => { results := [.lit (.bool true)], args := [d] }
  | _ => none }
def flexStillRow : OpenClaim := { program := "ytefofdjkinbfgaa", sum := "c9ed287ca1641fbfde5c6a11c7f1d263992b793823259307ef2521cf47a88b41", func := "valance/valancelaw08.FlexStill", spec := "flexStill", unfollowed := true, recurses := true, apart := false }
def FlexStillSaid : Prop := flexStillRow.holds Try.pinned (OpenSpec.ofChange flexStillSpec)

/-- ITS FALSE NEIGHBOUR: 'it returns false'. Refute it at one input. -/
def flexStillWrong : ChangeSpec := { name := "flexStill", fn := fun _ => fun
  | [d] => { results := [.lit (.bool false)], args := [d] }
  | _ => none }
def FlexStillWrongFalsely : Prop := flexStillRow.holds Try.pinned (OpenSpec.ofChange flexStillWrong)

/-- 'valancelaw08.FlexShareMore': WHATEVER THE INPUT: true; the input reads as it did. -/
def flexShareMoreSpec : ChangeSpec := { name := "flexShareMore", fn := fun _ => fun
  | [d1, d2, d3] => { results := [.lit (.bool true)], args := [d1, d2, d3] }
  | _ => none }
def flexShareMoreRow : OpenClaim := { program := "ytefofdjkinbfgaa", sum := "c9ed287ca1641fbfde5c6a11c7f1d263992b793823259307ef2521cf47a88b41", func := "valance/valancelaw08.FlexShareMore", spec := "flexShareMore", unfollowed := true, recurses := true, apart := false }
def FlexShareMoreSaid : Prop := flexShareMoreRow.holds Try.pinned (OpenSpec.ofChange flexShareMoreSpec)

/-- ITS FALSE NEIGHBOUR: 'it returns false'. Refute it at one input. -/
def flexShareMoreWrong : ChangeSpec := { name := "flexShareMore", fn := fun _ => fun
  | [d1, d2, d3] => { results := [.lit (.bool false)], args := [d1, d2, d3] }
  | _ => none }
def FlexShareMoreWrongFalsely : Prop := flexShareMoreRow.holds Try.pinned (OpenSpec.ofChange flexShareMoreWrong)

/- THE SECOND FORM. 'bulk': how many values and letters a reading holds, each counted each time it is reached (what is shared counts as often as it is met; a slice's spare places count too). A statement '..UptoSaid' is the law's where the arguments, and the package variables that the reading takes, are together of bulk at most 1048576: NARROWER than '..Said'. Prove '..Said' where nothing that the law and all that it calls make is longer than what came in: it says more and counts as full. Else prove '..UptoSaid'. A law counts once. -/
mutual
def uptoBulk {H : Type} : DataW H → Nat
  | .lit (.string bytes) => bytes.length + 1
  | .lit _ => 1
  | .nil => 1
  | .ptr d => uptoBulk d + 1
  | .slice elems spare => uptoBulkAll elems + uptoBulkAll spare + 1
  | .agg parts => uptoBulkAll parts + 1
  | .iface _ d => uptoBulk d + 1
  | .map entries => uptoBulkEntries entries + 1
  | .held _ => 1
def uptoBulkAll {H : Type} : List (DataW H) → Nat
  | [] => 0
  | d :: r => uptoBulk d + uptoBulkAll r
def uptoBulkEntries {H : Type} : List (Lit × DataW H) → Nat
  | [] => 0
  | x :: r => uptoBulkEntry x + uptoBulkEntries r
def uptoBulkEntry {H : Type} : Lit × DataW H → Nat
  | (.string bytes, d) => bytes.length + uptoBulk d + 1
  | (_, d) => uptoBulk d + 1
 end
def uptoSmall : (H : Type) → List (DataW H) → Bool := fun _ ds => decide (uptoBulkAll ds ≤ 1048576)
def OpenSpec.upto (s : _root_.Go.ChangeSpec) : _root_.Go.OpenSpec := { _root_.Go.OpenSpec.ofChange s with cond := some uptoSmall }

/-- 'valancelaw08.FlexSizes', WHERE WHAT IT READS IS OF BULK AT MOST 1048576: true; the input reads as it did. -/
def flexSizesUptoRow : OpenClaim := { program := "ytefofdjkinbfgaa", sum := "c9ed287ca1641fbfde5c6a11c7f1d263992b793823259307ef2521cf47a88b41", func := "valance/valancelaw08.FlexSizes", spec := "flexSizes", unfollowed := true, recurses := true, apart := false, narrowed := true }
def FlexSizesUptoSaid : Prop := flexSizesUptoRow.holds Try.pinned (OpenSpec.upto flexSizesSpec)

/-- 'valancelaw08.FlexShares', WHERE WHAT IT READS IS OF BULK AT MOST 1048576: true; the input reads as it did. -/
def flexSharesUptoRow : OpenClaim := { program := "ytefofdjkinbfgaa", sum := "c9ed287ca1641fbfde5c6a11c7f1d263992b793823259307ef2521cf47a88b41", func := "valance/valancelaw08.FlexShares", spec := "flexShares", unfollowed := true, recurses := true, apart := false, narrowed := true }
def FlexSharesUptoSaid : Prop := flexSharesUptoRow.holds Try.pinned (OpenSpec.upto flexSharesSpec)

/-- 'valancelaw08.FlexWithin', WHERE WHAT IT READS IS OF BULK AT MOST 1048576: true; the input reads as it did. -/
def flexWithinUptoRow : OpenClaim := { program := "ytefofdjkinbfgaa", sum := "c9ed287ca1641fbfde5c6a11c7f1d263992b793823259307ef2521cf47a88b41", func := "valance/valancelaw08.FlexWithin", spec := "flexWithin", unfollowed := true, recurses := true, apart := false, narrowed := true }
def FlexWithinUptoSaid : Prop := flexWithinUptoRow.holds Try.pinned (OpenSpec.upto flexWithinSpec)

/-- 'valancelaw08.FlexFills', WHERE WHAT IT READS IS OF BULK AT MOST 1048576: true; the input reads as it did. -/
def flexFillsUptoRow : OpenClaim := { program := "ytefofdjkinbfgaa", sum := "c9ed287ca1641fbfde5c6a11c7f1d263992b793823259307ef2521cf47a88b41", func := "valance/valancelaw08.FlexFills", spec := "flexFills", unfollowed := true, recurses := true, apart := false, narrowed := true }
def FlexFillsUptoSaid : Prop := flexFillsUptoRow.holds Try.pinned (OpenSpec.upto flexFillsSpec)

/-- 'valancelaw08.FlexAlike', WHERE WHAT IT READS IS OF BULK AT MOST 1048576: true; the input reads as it did. -/
def flexAlikeUptoRow : OpenClaim := { program := "ytefofdjkinbfgaa", sum := "c9ed287ca1641fbfde5c6a11c7f1d263992b793823259307ef2521cf47a88b41", func := "valance/valancelaw08.FlexAlike", spec := "flexAlike", unfollowed := true, recurses := true, apart := false, narrowed := true }
def FlexAlikeUptoSaid : Prop := flexAlikeUptoRow.holds Try.pinned (OpenSpec.upto flexAlikeSpec)

/-- 'valancelaw08.FlexStill', WHERE WHAT IT READS IS OF BULK AT MOST 1048576: true; the input reads as it did. -/
def flexStillUptoRow : OpenClaim := { program := "ytefofdjkinbfgaa", sum := "c9ed287ca1641fbfde5c6a11c7f1d263992b793823259307ef2521cf47a88b41", func := "valance/valancelaw08.FlexStill", spec := "flexStill", unfollowed := true, recurses := true, apart := false, narrowed := true }
def FlexStillUptoSaid : Prop := flexStillUptoRow.holds Try.pinned (OpenSpec.upto flexStillSpec)

/-- 'valancelaw08.FlexShareMore', WHERE WHAT IT READS IS OF BULK AT MOST 1048576: true; the input reads as it did. -/
def flexShareMoreUptoRow : OpenClaim := { program := "ytefofdjkinbfgaa", sum := "c9ed287ca1641fbfde5c6a11c7f1d263992b793823259307ef2521cf47a88b41", func := "valance/valancelaw08.FlexShareMore", spec := "flexShareMore", unfollowed := true, recurses := true, apart := false, narrowed := true }
def FlexShareMoreUptoSaid : Prop := flexShareMoreUptoRow.holds Try.pinned (OpenSpec.upto flexShareMoreSpec)

end Rows
end Go.Proofs.Ytefofdjkinbfgaa

/-
  No cell of these rows narrows 'for every input' (looked for: loops, veiled, ifaces, maps, wideKeys, modest, calm, conditions, laid).
  DERIVED. THE GIVEN ROWS OF THIS SEAT. 3 by the template 'for every input the law returns true; each argument reads behind the call as it read before'; 0 by the template 'total and deterministic' (their statements: YtmmdkafkfjfgnaaTotals.lean).
  GIVEN WITH THE SEED: the statements are not yours to turn. If you find one false, say at which input.
  Laid BY PROGRAM, IN A SANDBOX (cutbox-rows.mjs): the forced cells as the released guide's own fill.sh prints them over the translation e237c36f15abd71a… (all of the seat's roots in one cut). By AI agents, Wed Nov 11 2026. No macro, syntax, notation, axiom, sorry.
-/
import Derived.Test.YtmmdkafkfjfgnaaChecked
import GoSem.Claim
import GoSem.ClaimJoined
import GoSem.ClaimMapViews
import Derived.JoinedTies
import Derived.KernelRfl
namespace Go.Proofs.Ytmmdkafkfjfgnaa
/- THE CELL 'sum', in the pinned program and in every row, IS THE sha256 OF THE DUMP (.gsa) THAT YtmmdkafkfjfgnaaProg.lean LOADS. Nothing in Lean hashes anything: it is a label: what it is worth is what the hold of that sum in a sandbox is worth. -/
noncomputable def Try.pinned : Pinned := { name := "ytmmdkafkfjfgnaa", sum := "e237c36f15abd71ae1226d2181dc4c8992cf88ca5ca6585de02022e4ba55681b", checked := Try.checked }
namespace Rows
def none {H : Type} : Left H := { results := [], args := [] }

/-- 'angeluslaw23.AnchorDoes': WHATEVER THE INPUT: true; the input reads as it did. -/
def anchorDoesSpec : ChangeSpec := { name := "anchorDoes", fn := fun _ => fun
  | [d1, d2] => { results := [.lit (.bool true)], args := [d1, d2] }
  | _ => none }
def anchorDoesRow : OpenClaim := { program := "ytmmdkafkfjfgnaa", sum := "e237c36f15abd71ae1226d2181dc4c8992cf88ca5ca6585de02022e4ba55681b", func := "angelus/angeluslaw23.AnchorDoes", spec := "anchorDoes", unfollowed := true, recurses := true, apart := false }
def AnchorDoesSaid : Prop := anchorDoesRow.holds Try.pinned (OpenSpec.ofChange anchorDoesSpec)

/-- ITS FALSE NEIGHBOUR: 'it returns false'. Refute it at one input. -/
def anchorDoesWrong : ChangeSpec := { name := "anchorDoes", fn := fun _ => fun
  | [d1, d2] => { results := [.lit (.bool false)], args := [d1, d2] }
  | _ => none }
def AnchorDoesWrongFalsely : Prop := anchorDoesRow.holds Try.pinned (OpenSpec.ofChange anchorDoesWrong)

/-- 'angeluslaw23.AnchorBack': WHATEVER THE INPUT: true; the input reads as it did. -/
def anchorBackSpec : ChangeSpec := { name := "anchorBack", fn := fun _ => fun
  | [d1, d2, d3] => { results := [.lit (.bool true)], args := [d1, d2, d3] }
  | _ => none }
def anchorBackRow : OpenClaim := { program := "ytmmdkafkfjfgnaa", sum := "e237c36f15abd71ae1226d2181dc4c8992cf88ca5ca6585de02022e4ba55681b", func := "angelus/angeluslaw23.AnchorBack", spec := "anchorBack", unfollowed := true, recurses := true, apart := false }
def AnchorBackSaid : Prop := anchorBackRow.holds Try.pinned (OpenSpec.ofChange anchorBackSpec)

/-- ITS FALSE NEIGHBOUR: 'it returns false'. Refute it at one input. -/
def anchorBackWrong : ChangeSpec := { name := "anchorBack", fn := fun _ => fun
  | [d1, d2, d3] => { results := [.lit (.bool false)], args := [d1, d2, d3] }
  | _ => none }
def AnchorBackWrongFalsely : Prop := anchorBackRow.holds Try.pinned (OpenSpec.ofChange anchorBackWrong)

/-- 'angeluslaw23.AnchorRuns': WHATEVER THE INPUT: true; the input reads as it did. -/
def anchorRunsSpec : ChangeSpec := { name := "anchorRuns", fn := fun _ => fun
  | [d1, d2, d3, d4] => { results := [.lit (.bool true)], args := [d1, d2, d3, d4] }
  | _ => none }
def anchorRunsRow : OpenClaim := { program := "ytmmdkafkfjfgnaa", sum := "e237c36f15abd71ae1226d2181dc4c8992cf88ca5ca6585de02022e4ba55681b", func := "angelus/angeluslaw23.AnchorRuns", spec := "anchorRuns", unfollowed := true, recurses := true, apart := false }
def AnchorRunsSaid : Prop := anchorRunsRow.holds Try.pinned (OpenSpec.ofChange anchorRunsSpec)

/-- ITS FALSE NEIGHBOUR: 'it returns false'. Refute it at one input. -/
def anchorRunsWrong : ChangeSpec := { name := "anchorRuns", fn := fun _ => fun
  | [d1, d2, d3, d4] => { results := [.lit (.bool false)], args := [d1, d2, d3, d4] }
  | _ => none }
def AnchorRunsWrongFalsely : Prop := anchorRunsRow.holds Try.pinned (OpenSpec.ofChange anchorRunsWrong)

/- THE SECOND FORM. 'bulk': how many values and letters a reading holds, each counted each time it is reached (what is shared counts as often as it is met; a slice's spare places count too). A statement '..UptoSaid' is the law's where the arguments, and the package variables that the reading takes, are together of bulk at most 1048576: NARROWER than '..Said'. Prove '..Said' where nothing that the law and all that it calls make is longer than what came in: it says more and counts as full. Else prove '..UptoSaid'. A law counts once. -/
mutual
def uptoBulk {H : Type} : DataW H → Nat
  | .lit (.string bytes) => bytes.length + 1
  | .lit _ => 1
  | .nil => 1
  | .ptr d => uptoBulk d + 1
  | .slice elems spare => uptoBulkAll elems + uptoBulkAll spare + 1
  | .agg parts => uptoBulkAll parts + 1
  | .iface _ d => uptoBulk d + 1
  | .map entries => uptoBulkEntries entries + 1
  | .held _ => 1
def uptoBulkAll {H : Type} : List (DataW H) → Nat
  | [] => 0
  | d :: r => uptoBulk d + uptoBulkAll r
def uptoBulkEntries {H : Type} : List (Lit × DataW H) → Nat
  | [] => 0
  | x :: r => uptoBulkEntry x + uptoBulkEntries r
def uptoBulkEntry {H : Type} : Lit × DataW H → Nat
  | (.string bytes, d) => bytes.length + uptoBulk d + 1
  | (_, d) => uptoBulk d + 1
 end
def uptoSmall : (H : Type) → List (DataW H) → Bool := fun _ ds => decide (uptoBulkAll ds ≤ 1048576)
def OpenSpec.upto (s : _root_.Go.ChangeSpec) : _root_.Go.OpenSpec := { _root_.Go.OpenSpec.ofChange s with cond := some uptoSmall }

/-- 'angeluslaw23.AnchorDoes', WHERE WHAT IT READS IS OF BULK AT MOST 1048576: true; the input reads as it did. -/
def anchorDoesUptoRow : OpenClaim := { program := "ytmmdkafkfjfgnaa", sum := "e237c36f15abd71ae1226d2181dc4c8992cf88ca5ca6585de02022e4ba55681b", func := "angelus/angeluslaw23.AnchorDoes", spec := "anchorDoes", unfollowed := true, recurses := true, apart := false, narrowed := true }
def AnchorDoesUptoSaid : Prop := anchorDoesUptoRow.holds Try.pinned (OpenSpec.upto anchorDoesSpec)

/-- 'angeluslaw23.AnchorBack', WHERE WHAT IT READS IS OF BULK AT MOST 1048576: true; the input reads as it did. -/
def anchorBackUptoRow : OpenClaim := { program := "ytmmdkafkfjfgnaa", sum := "e237c36f15abd71ae1226d2181dc4c8992cf88ca5ca6585de02022e4ba55681b", func := "angelus/angeluslaw23.AnchorBack", spec := "anchorBack", unfollowed := true, recurses := true, apart := false, narrowed := true }
def AnchorBackUptoSaid : Prop := anchorBackUptoRow.holds Try.pinned (OpenSpec.upto anchorBackSpec)

/-- 'angeluslaw23.AnchorRuns', WHERE WHAT IT READS IS OF BULK AT MOST 1048576: true; the input reads as it did. -/
def anchorRunsUptoRow : OpenClaim := { program := "ytmmdkafkfjfgnaa", sum := "e237c36f15abd71ae1226d2181dc4c8992cf88ca5ca6585de02022e4ba55681b", func := "angelus/angeluslaw23.AnchorRuns", spec := "anchorRuns", unfollowed := true, recurses := true, apart := false, narrowed := true }
def AnchorRunsUptoSaid : Prop := anchorRunsUptoRow.holds Try.pinned (OpenSpec.upto anchorRunsSpec)

end Rows
end Go.Proofs.Ytmmdkafkfjfgnaa

/-
  No cell of these rows narrows 'for every input' (looked for: loops, veiled, ifaces, maps, wideKeys, modest, calm, conditions, laid).
  DERIVED. THE GIVEN ROWS OF THIS SEAT. 6 by the template 'for every input the law returns true; each argument reads behind the call as it read before'; 0 by the template 'total and deterministic' (their statements: YtcgnedndfhkgiaaTotals.lean).
  GIVEN WITH THE SEED: the statements are not yours to turn. If you find one false, say at which input.
  Laid BY PROGRAM, IN A SANDBOX (cutbox-rows.mjs): the forced cells as the released guide's own fill.sh prints them over the translation 5642d96be058a2ba… (all of the seat's roots in one cut). By AI agents, Wed Nov 11 2026. No macro, syntax, notation, axiom, sorry.
-/
import Derived.Test.YtcgnedndfhkgiaaChecked
import GoSem.Claim
import GoSem.ClaimJoined
import GoSem.ClaimMapViews
import Derived.JoinedTies
import Derived.KernelRfl
namespace Go.Proofs.Ytcgnedndfhkgiaa
/- THE CELL 'sum', in the pinned program and in every row, IS THE sha256 OF THE DUMP (.gsa) THAT YtcgnedndfhkgiaaProg.lean LOADS. Nothing in Lean hashes anything: it is a label: what it is worth is what the hold of that sum in a sandbox is worth. -/
noncomputable def Try.pinned : Pinned := { name := "ytcgnedndfhkgiaa", sum := "5642d96be058a2ba471bb5266b641352dd40a0ea48be8029e13f52291d616a71", checked := Try.checked }
namespace Rows
def none {H : Type} : Left H := { results := [], args := [] }

/-- 'angeluslaw13.SlopeIs': WHATEVER THE INPUT: true; the input reads as it did. -/
def slopeIsSpec : ChangeSpec := { name := "slopeIs", fn := fun _ => fun
  | [d1, d2] => { results := [.lit (.bool true)], args := [d1, d2] }
  | _ => none }
def slopeIsRow : OpenClaim := { program := "ytcgnedndfhkgiaa", sum := "5642d96be058a2ba471bb5266b641352dd40a0ea48be8029e13f52291d616a71", func := "angelus/angeluslaw13.SlopeIs", spec := "slopeIs", apart := false }
def SlopeIsSaid : Prop := slopeIsRow.holds Try.pinned (OpenSpec.ofChange slopeIsSpec)

/-- ITS FALSE NEIGHBOUR: 'it returns false'. Refute it at one input. -/
def slopeIsWrong : ChangeSpec := { name := "slopeIs", fn := fun _ => fun
  | [d1, d2] => { results := [.lit (.bool false)], args := [d1, d2] }
  | _ => none }
def SlopeIsWrongFalsely : Prop := slopeIsRow.holds Try.pinned (OpenSpec.ofChange slopeIsWrong)

/-- 'angeluslaw13.SlopeBound': WHATEVER THE INPUT: true; the input reads as it did. -/
def slopeBoundSpec : ChangeSpec := { name := "slopeBound", fn := fun _ => fun
  | [d1, d2] => { results := [.lit (.bool true)], args := [d1, d2] }
  | _ => none }
def slopeBoundRow : OpenClaim := { program := "ytcgnedndfhkgiaa", sum := "5642d96be058a2ba471bb5266b641352dd40a0ea48be8029e13f52291d616a71", func := "angelus/angeluslaw13.SlopeBound", spec := "slopeBound", apart := false }
def SlopeBoundSaid : Prop := slopeBoundRow.holds Try.pinned (OpenSpec.ofChange slopeBoundSpec)

/-- ITS FALSE NEIGHBOUR: 'it returns false'. Refute it at one input. -/
def slopeBoundWrong : ChangeSpec := { name := "slopeBound", fn := fun _ => fun
  | [d1, d2] => { results := [.lit (.bool false)], args := [d1, d2] }
  | _ => none }
def SlopeBoundWrongFalsely : Prop := slopeBoundRow.holds Try.pinned (OpenSpec.ofChange slopeBoundWrong)

/-- 'angeluslaw13.SlopeLine': WHATEVER THE INPUT: true; the input reads as it did. -/
def slopeLineSpec : ChangeSpec := { name := "slopeLine", fn := fun _ => fun
  | [d1, d2, d3, d4, d5, d6] => { results := [.lit (.bool true)], args := [d1, d2, d3, d4, d5, d6] }
  | _ => none }
def slopeLineRow : OpenClaim := { program := "ytcgnedndfhkgiaa", sum := "5642d96be058a2ba471bb5266b641352dd40a0ea48be8029e13f52291d616a71", func := "angelus/angeluslaw13.SlopeLine", spec := "slopeLine", apart := false }
def SlopeLineSaid : Prop := slopeLineRow.holds Try.pinned (OpenSpec.ofChange slopeLineSpec)

/-- ITS FALSE NEIGHBOUR: 'it returns false'. Refute it at one input. -/
def slopeLineWrong : ChangeSpec := { name := "slopeLine", fn := fun _ => fun
  | [d1, d2, d3, d4, d5, d6] => { results := [.lit (.bool false)], args := [d1, d2, d3, d4, d5, d6] }
  | _ => none }
def SlopeLineWrongFalsely : Prop := slopeLineRow.holds Try.pinned (OpenSpec.ofChange slopeLineWrong)

/-- 'angeluslaw13.SlopeMoved': WHATEVER THE INPUT: true; the input reads as it did. -/
def slopeMovedSpec : ChangeSpec := { name := "slopeMoved", fn := fun _ => fun
  | [d1, d2, d3, d4] => { results := [.lit (.bool true)], args := [d1, d2, d3, d4] }
  | _ => none }
def slopeMovedRow : OpenClaim := { program := "ytcgnedndfhkgiaa", sum := "5642d96be058a2ba471bb5266b641352dd40a0ea48be8029e13f52291d616a71", func := "angelus/angeluslaw13.SlopeMoved", spec := "slopeMoved", apart := false }
def SlopeMovedSaid : Prop := slopeMovedRow.holds Try.pinned (OpenSpec.ofChange slopeMovedSpec)

/-- ITS FALSE NEIGHBOUR: 'it returns false'. Refute it at one input. -/
def slopeMovedWrong : ChangeSpec := { name := "slopeMoved", fn := fun _ => fun
  | [d1, d2, d3, d4] => { results := [.lit (.bool false)], args := [d1, d2, d3, d4] }
  | _ => none }
def SlopeMovedWrongFalsely : Prop := slopeMovedRow.holds Try.pinned (OpenSpec.ofChange slopeMovedWrong)

/-- 'angeluslaw13.SlopeGains': WHATEVER THE INPUT: true; the input reads as it did. -/
def slopeGainsSpec : ChangeSpec := { name := "slopeGains", fn := fun _ => fun
  | [d1, d2, d3, d4] => { results := [.lit (.bool true)], args := [d1, d2, d3, d4] }
  | _ => none }
def slopeGainsRow : OpenClaim := { program := "ytcgnedndfhkgiaa", sum := "5642d96be058a2ba471bb5266b641352dd40a0ea48be8029e13f52291d616a71", func := "angelus/angeluslaw13.SlopeGains", spec := "slopeGains", named := ["math/bits.divideError", "math/bits.overflowError"], apart := false }
def SlopeGainsSaid : Prop := slopeGainsRow.holds Try.pinned (OpenSpec.ofChange slopeGainsSpec)

/-- ITS FALSE NEIGHBOUR: 'it returns false'. Refute it at one input. -/
def slopeGainsWrong : ChangeSpec := { name := "slopeGains", fn := fun _ => fun
  | [d1, d2, d3, d4] => { results := [.lit (.bool false)], args := [d1, d2, d3, d4] }
  | _ => none }
def SlopeGainsWrongFalsely : Prop := slopeGainsRow.holds Try.pinned (OpenSpec.ofChange slopeGainsWrong)

/-- 'angeluslaw13.SlopeSigns': WHATEVER THE INPUT: true; the input reads as it did. -/
def slopeSignsSpec : ChangeSpec := { name := "slopeSigns", fn := fun _ => fun
  | [d1, d2] => { results := [.lit (.bool true)], args := [d1, d2] }
  | _ => none }
def slopeSignsRow : OpenClaim := { program := "ytcgnedndfhkgiaa", sum := "5642d96be058a2ba471bb5266b641352dd40a0ea48be8029e13f52291d616a71", func := "angelus/angeluslaw13.SlopeSigns", spec := "slopeSigns", apart := false }
def SlopeSignsSaid : Prop := slopeSignsRow.holds Try.pinned (OpenSpec.ofChange slopeSignsSpec)

/-- ITS FALSE NEIGHBOUR: 'it returns false'. Refute it at one input. -/
def slopeSignsWrong : ChangeSpec := { name := "slopeSigns", fn := fun _ => fun
  | [d1, d2] => { results := [.lit (.bool false)], args := [d1, d2] }
  | _ => none }
def SlopeSignsWrongFalsely : Prop := slopeSignsRow.holds Try.pinned (OpenSpec.ofChange slopeSignsWrong)

/- THE SECOND FORM. 'bulk': how many values and letters a reading holds, each counted each time it is reached (what is shared counts as often as it is met; a slice's spare places count too). A statement '..UptoSaid' is the law's where the arguments, and the package variables that the reading takes, are together of bulk at most 1048576: NARROWER than '..Said'. Prove '..Said' where nothing that the law and all that it calls make is longer than what came in: it says more and counts as full. Else prove '..UptoSaid'. A law counts once. -/
mutual
def uptoBulk {H : Type} : DataW H → Nat
  | .lit (.string bytes) => bytes.length + 1
  | .lit _ => 1
  | .nil => 1
  | .ptr d => uptoBulk d + 1
  | .slice elems spare => uptoBulkAll elems + uptoBulkAll spare + 1
  | .agg parts => uptoBulkAll parts + 1
  | .iface _ d => uptoBulk d + 1
  | .map entries => uptoBulkEntries entries + 1
  | .held _ => 1
def uptoBulkAll {H : Type} : List (DataW H) → Nat
  | [] => 0
  | d :: r => uptoBulk d + uptoBulkAll r
def uptoBulkEntries {H : Type} : List (Lit × DataW H) → Nat
  | [] => 0
  | x :: r => uptoBulkEntry x + uptoBulkEntries r
def uptoBulkEntry {H : Type} : Lit × DataW H → Nat
  | (.string bytes, d) => bytes.length + uptoBulk d + 1
  | (_, d) => uptoBulk d + 1
 end
def uptoSmall : (H : Type) → List (DataW H) → Bool := fun _ ds => decide (uptoBulkAll ds ≤ 1048576)
def OpenSpec.upto (s : _root_.Go.ChangeSpec) : _root_.Go.OpenSpec := { _root_.Go.OpenSpec.ofChange s with cond := some uptoSmall }

/-- 'angeluslaw13.SlopeIs', WHERE WHAT IT READS IS OF BULK AT MOST 1048576: true; the input reads as it did. -/
def slopeIsUptoRow : OpenClaim := { program := "ytcgnedndfhkgiaa", sum := "5642d96be058a2ba471bb5266b641352dd40a0ea48be8029e13f52291d616a71", func := "angelus/angeluslaw13.SlopeIs", spec := "slopeIs", apart := false, narrowed := true }
def SlopeIsUptoSaid : Prop := slopeIsUptoRow.holds Try.pinned (OpenSpec.upto slopeIsSpec)

/-- 'angeluslaw13.SlopeBound', WHERE WHAT IT READS IS OF BULK AT MOST 1048576: true; the input reads as it did. -/
def slopeBoundUptoRow : OpenClaim := { program := "ytcgnedndfhkgiaa", sum := "5642d96be058a2ba471bb5266b641352dd40a0ea48be8029e13f52291d616a71", func := "angelus/angeluslaw13.SlopeBound", spec := "slopeBound", apart := false, narrowed := true }
def SlopeBoundUptoSaid : Prop := slopeBoundUptoRow.holds Try.pinned (OpenSpec.upto slopeBoundSpec)

/-- 'angeluslaw13.SlopeLine', WHERE WHAT IT READS IS OF BULK AT MOST 1048576: true; the input reads as it did. -/
def slopeLineUptoRow : OpenClaim := { program := "ytcgnedndfhkgiaa", sum := "5642d96be058a2ba471bb5266b641352dd40a0ea48be8029e13f52291d616a71", func := "angelus/angeluslaw13.SlopeLine", spec := "slopeLine", apart := false, narrowed := true }
def SlopeLineUptoSaid : Prop := slopeLineUptoRow.holds Try.pinned (OpenSpec.upto slopeLineSpec)

/-- 'angeluslaw13.SlopeMoved', WHERE WHAT IT READS IS OF BULK AT MOST 1048576: true; the input reads as it did. -/
def slopeMovedUptoRow : OpenClaim := { program := "ytcgnedndfhkgiaa", sum := "5642d96be058a2ba471bb5266b641352dd40a0ea48be8029e13f52291d616a71", func := "angelus/angeluslaw13.SlopeMoved", spec := "slopeMoved", apart := false, narrowed := true }
def SlopeMovedUptoSaid : Prop := slopeMovedUptoRow.holds Try.pinned (OpenSpec.upto slopeMovedSpec)

/-- 'angeluslaw13.SlopeGains', WHERE WHAT IT READS IS OF BULK AT MOST 1048576: true; the input reads as it did. -/
def slopeGainsUptoRow : OpenClaim := { program := "ytcgnedndfhkgiaa", sum := "5642d96be058a2ba471bb5266b641352dd40a0ea48be8029e13f52291d616a71", func := "angelus/angeluslaw13.SlopeGains", spec := "slopeGains", named := ["math/bits.divideError", "math/bits.overflowError"], apart := false, narrowed := true }
def SlopeGainsUptoSaid : Prop := slopeGainsUptoRow.holds Try.pinned (OpenSpec.upto slopeGainsSpec)

/-- 'angeluslaw13.SlopeSigns', WHERE WHAT IT READS IS OF BULK AT MOST 1048576: true; the input reads as it did. -/
def slopeSignsUptoRow : OpenClaim := { program := "ytcgnedndfhkgiaa", sum := "5642d96be058a2ba471bb5266b641352dd40a0ea48be8029e13f52291d616a71", func := "angelus/angeluslaw13.SlopeSigns", spec := "slopeSigns", apart := false, narrowed := true }
def SlopeSignsUptoSaid : Prop := slopeSignsUptoRow.holds Try.pinned (OpenSpec.upto slopeSignsSpec)

end Rows
end Go.Proofs.Ytcgnedndfhkgiaa

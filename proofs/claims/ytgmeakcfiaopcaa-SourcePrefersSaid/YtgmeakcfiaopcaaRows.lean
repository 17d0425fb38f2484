/-
  No cell of these rows narrows 'for every input' (looked for: loops, veiled, ifaces, maps, wideKeys, modest, calm, conditions, laid).
  DERIVED. THE GIVEN ROWS OF THIS SEAT. 3 by the template 'for every input the law returns true; each argument reads behind the call as it read before'; 0 by the template 'total and deterministic' (their statements: YtgmeakcfiaopcaaTotals.lean).
  GIVEN WITH THE SEED: the statements are not yours to turn. If you find one false, say at which input.
  Laid BY PROGRAM, IN A SANDBOX (cutbox-rows.mjs): the forced cells as the released guide's own fill.sh prints them over the translation 0f82fb3c20ccae07… (all of the seat's roots in one cut). By AI agents, Wed Nov 11 2026. No macro, syntax, notation, axiom, sorry.
-/
import Derived.Test.YtgmeakcfiaopcaaChecked
import GoSem.Claim
import GoSem.ClaimJoined
import GoSem.ClaimMapViews
import Derived.JoinedTies
import Derived.KernelRfl
namespace Go.Proofs.Ytgmeakcfiaopcaa
/- THE CELL 'sum', in the pinned program and in every row, IS THE sha256 OF THE DUMP (.gsa) THAT YtgmeakcfiaopcaaProg.lean LOADS. Nothing in Lean hashes anything: it is a label: what it is worth is what the hold of that sum in a sandbox is worth. -/
noncomputable def Try.pinned : Pinned := { name := "ytgmeakcfiaopcaa", sum := "0f82fb3c20ccae075f10eb003472d33dbb8d29c614277ad16209e626649c632d", checked := Try.checked }
namespace Rows
def none {H : Type} : Left H := { results := [], args := [] }

/-- 'angeluslaw19.SourcePrefers': WHATEVER THE INPUT: true; the input reads as it did. -/
def sourcePrefersSpec : ChangeSpec := { name := "sourcePrefers", fn := fun _ => fun
  | [d1, d2, d3, d4] => { results := [.lit (.bool true)], args := [d1, d2, d3, d4] }
  | _ => none }
def sourcePrefersRow : OpenClaim := { program := "ytgmeakcfiaopcaa", sum := "0f82fb3c20ccae075f10eb003472d33dbb8d29c614277ad16209e626649c632d", func := "angelus/angeluslaw19.SourcePrefers", spec := "sourcePrefers", unfollowed := true, recurses := true, named := ["math/bits.divideError", "math/bits.overflowError"], apart := false }
def SourcePrefersSaid : Prop := sourcePrefersRow.holds Try.pinned (OpenSpec.ofChange sourcePrefersSpec)

/-- ITS FALSE NEIGHBOUR: 'it returns false'. Refute it at one input. -/
def sourcePrefersWrong : ChangeSpec := { name := "sourcePrefers", fn := fun _ => fun
  | [d1, d2, d3, d4] => { results := [.lit (.bool false)], args := [d1, d2, d3, d4] }
  | _ => none }
def SourcePrefersWrongFalsely : Prop := sourcePrefersRow.holds Try.pinned (OpenSpec.ofChange sourcePrefersWrong)

/-- 'angeluslaw19.SourceAges': WHATEVER THE INPUT: true; the input reads as it did. -/
def sourceAgesSpec : ChangeSpec := { name := "sourceAges", fn := fun _ => fun
  | [d1, d2, d3] => { results := [.lit (.bool true)], args := [d1, d2, d3] }
  | _ => none }
def sourceAgesRow : OpenClaim := { program := "ytgmeakcfiaopcaa", sum := "0f82fb3c20ccae075f10eb003472d33dbb8d29c614277ad16209e626649c632d", func := "angelus/angeluslaw19.SourceAges", spec := "sourceAges", unfollowed := true, recurses := true, named := ["math/bits.divideError", "math/bits.overflowError"], apart := false }
def SourceAgesSaid : Prop := sourceAgesRow.holds Try.pinned (OpenSpec.ofChange sourceAgesSpec)

/-- ITS FALSE NEIGHBOUR: 'it returns false'. Refute it at one input. -/
def sourceAgesWrong : ChangeSpec := { name := "sourceAges", fn := fun _ => fun
  | [d1, d2, d3] => { results := [.lit (.bool false)], args := [d1, d2, d3] }
  | _ => none }
def SourceAgesWrongFalsely : Prop := sourceAgesRow.holds Try.pinned (OpenSpec.ofChange sourceAgesWrong)

/-- 'angeluslaw19.SourceExact': WHATEVER THE INPUT: true; the input reads as it did. -/
def sourceExactSpec : ChangeSpec := { name := "sourceExact", fn := fun _ => fun
  | [d1, d2, d3, d4] => { results := [.lit (.bool true)], args := [d1, d2, d3, d4] }
  | _ => none }
def sourceExactRow : OpenClaim := { program := "ytgmeakcfiaopcaa", sum := "0f82fb3c20ccae075f10eb003472d33dbb8d29c614277ad16209e626649c632d", func := "angelus/angeluslaw19.SourceExact", spec := "sourceExact", unfollowed := true, recurses := true, named := ["math/bits.divideError", "math/bits.overflowError"], apart := false }
def SourceExactSaid : Prop := sourceExactRow.holds Try.pinned (OpenSpec.ofChange sourceExactSpec)

/-- ITS FALSE NEIGHBOUR: 'it returns false'. Refute it at one input. -/
def sourceExactWrong : ChangeSpec := { name := "sourceExact", fn := fun _ => fun
  | [d1, d2, d3, d4] => { results := [.lit (.bool false)], args := [d1, d2, d3, d4] }
  | _ => none }
def SourceExactWrongFalsely : Prop := sourceExactRow.holds Try.pinned (OpenSpec.ofChange sourceExactWrong)

/- THE SECOND FORM. 'bulk': how many values and letters a reading holds, each counted each time it is reached (what is shared counts as often as it is met; a slice's spare places count too). A statement '..UptoSaid' is the law's where the arguments, and the package variables that the reading takes, are together of bulk at most 1048576: NARROWER than '..Said'. Prove '..Said' where nothing that the law and all that it calls make is longer than what came in: it says more and counts as full. Else prove '..UptoSaid'. A law counts once. -/
mutual
def uptoBulk {H : Type} : DataW H → Nat
  | .lit (.string bytes) => bytes.length + 1
  | .lit _ => 1
  | .nil => 1
  | .ptr d => uptoBulk d + 1
  | .slice elems spare => uptoBulkAll elems + uptoBulkAll spare + 1
  | .agg parts => uptoBulkAll parts + 1
  | .iface _ d => uptoBulk d + 1
  | .map entries => uptoBulkEntries entries + 1
  | .held _ => 1
def uptoBulkAll {H : Type} : List (DataW H) → Nat
  | [] => 0
  | d :: r => uptoBulk d + uptoBulkAll r
def uptoBulkEntries {H : Type} : List (Lit × DataW H) → Nat
  | [] => 0
  | x :: r => uptoBulkEntry x + uptoBulkEntries r
def uptoBulkEntry {H : Type} : Lit × DataW H → Nat
  | (.string bytes, d) => bytes.length + uptoBulk d + 1
  | (_, d) => uptoBulk d + 1
 end
def uptoSmall : (H : Type) → List (DataW H) → Bool := fun _ ds => decide (uptoBulkAll ds ≤ 1048576)
def OpenSpec.upto (s : _root_.Go.ChangeSpec) : _root_.Go.OpenSpec := { _root_.Go.OpenSpec.ofChange s with cond := some uptoSmall }

/-- 'angeluslaw19.SourcePrefers', WHERE WHAT IT READS IS OF BULK AT MOST 1048576: true; the input reads as it did. -/
def sourcePrefersUptoRow : OpenClaim := { program := "ytgmeakcfiaopcaa", sum := "0f82fb3c20ccae075f10eb003472d33dbb8d29c614277ad16209e626649c632d", func := "angelus/angeluslaw19.SourcePrefers", spec := "sourcePrefers", unfollowed := true, recurses := true, named := ["math/bits.divideError", "math/bits.overflowError"], apart := false, narrowed := true }
def SourcePrefersUptoSaid : Prop := sourcePrefersUptoRow.holds Try.pinned (OpenSpec.upto sourcePrefersSpec)

/-- 'angeluslaw19.SourceAges', WHERE WHAT IT READS IS OF BULK AT MOST 1048576: true; the input reads as it did. -/
def sourceAgesUptoRow : OpenClaim := { program := "ytgmeakcfiaopcaa", sum := "0f82fb3c20ccae075f10eb003472d33dbb8d29c614277ad16209e626649c632d", func := "angelus/angeluslaw19.SourceAges", spec := "sourceAges", unfollowed := true, recurses := true, named := ["math/bits.divideError", "math/bits.overflowError"], apart := false, narrowed := true }
def SourceAgesUptoSaid : Prop := sourceAgesUptoRow.holds Try.pinned (OpenSpec.upto sourceAgesSpec)

/-- 'angeluslaw19.SourceExact', WHERE WHAT IT READS IS OF BULK AT MOST 1048576: true; the input reads as it did. -/
def sourceExactUptoRow : OpenClaim := { program := "ytgmeakcfiaopcaa", sum := "0f82fb3c20ccae075f10eb003472d33dbb8d29c614277ad16209e626649c632d", func := "angelus/angeluslaw19.SourceExact", spec := "sourceExact", unfollowed := true, recurses := true, named := ["math/bits.divideError", "math/bits.overflowError"], apart := false, narrowed := true }
def SourceExactUptoSaid : Prop := sourceExactUptoRow.holds Try.pinned (OpenSpec.upto sourceExactSpec)

end Rows
end Go.Proofs.Ytgmeakcfiaopcaa

/-
  No cell of these rows narrows 'for every input' (looked for: loops, veiled, ifaces, maps, wideKeys, modest, calm, conditions, laid).
  DERIVED. THE GIVEN ROWS OF THIS SEAT. 3 by the template 'for every input the law returns true; each argument reads behind the call as it read before'; 0 by the template 'total and deterministic' (their statements: YtnhjjgopkfoncaaTotals.lean).
  GIVEN WITH THE SEED: the statements are not yours to turn. If you find one false, say at which input.
  Laid BY PROGRAM, IN A SANDBOX (cutbox-rows.mjs): the forced cells as the released guide's own fill.sh prints them over the translation 05d0c2b57a7e16a9… (all of the seat's roots in one cut). By AI agents, Wed Nov 11 2026. No macro, syntax, notation, axiom, sorry.
-/
import Derived.Test.YtnhjjgopkfoncaaChecked
import GoSem.Claim
import GoSem.ClaimJoined
import GoSem.ClaimMapViews
import Derived.JoinedTies
import Derived.KernelRfl
namespace Go.Proofs.Ytnhjjgopkfoncaa
/- THE CELL 'sum', in the pinned program and in every row, IS THE sha256 OF THE DUMP (.gsa) THAT YtnhjjgopkfoncaaProg.lean LOADS. Nothing in Lean hashes anything: it is a label: what it is worth is what the hold of that sum in a sandbox is worth. -/
noncomputable def Try.pinned : Pinned := { name := "ytnhjjgopkfoncaa", sum := "05d0c2b57a7e16a9e43fcc95af80b7ce12a8076991e790a7cd3e0292e5d2a4cd", checked := Try.checked }
namespace Rows
def none {H : Type} : Left H := { results := [], args := [] }

/-- 'angeluslaw17.LevelDoes': WHATEVER THE INPUT: true; the input reads as it did. -/
def levelDoesSpec : ChangeSpec := { name := "levelDoes", fn := fun _ => fun
  | [d1, d2] => { results := [.lit (.bool true)], args := [d1, d2] }
  | _ => none }
def levelDoesRow : OpenClaim := { program := "ytnhjjgopkfoncaa", sum := "05d0c2b57a7e16a9e43fcc95af80b7ce12a8076991e790a7cd3e0292e5d2a4cd", func := "angelus/angeluslaw17.LevelDoes", spec := "levelDoes", unfollowed := true, recurses := true, apart := false }
def LevelDoesSaid : Prop := levelDoesRow.holds Try.pinned (OpenSpec.ofChange levelDoesSpec)

/-- ITS FALSE NEIGHBOUR: 'it returns false'. Refute it at one input. -/
def levelDoesWrong : ChangeSpec := { name := "levelDoes", fn := fun _ => fun
  | [d1, d2] => { results := [.lit (.bool false)], args := [d1, d2] }
  | _ => none }
def LevelDoesWrongFalsely : Prop := levelDoesRow.holds Try.pinned (OpenSpec.ofChange levelDoesWrong)

/-- 'angeluslaw17.LevelLowest': WHATEVER THE INPUT: true; the input reads as it did. -/
def levelLowestSpec : ChangeSpec := { name := "levelLowest", fn := fun _ => fun
  | [d1, d2] => { results := [.lit (.bool true)], args := [d1, d2] }
  | _ => none }
def levelLowestRow : OpenClaim := { program := "ytnhjjgopkfoncaa", sum := "05d0c2b57a7e16a9e43fcc95af80b7ce12a8076991e790a7cd3e0292e5d2a4cd", func := "angelus/angeluslaw17.LevelLowest", spec := "levelLowest", unfollowed := true, recurses := true, apart := false }
def LevelLowestSaid : Prop := levelLowestRow.holds Try.pinned (OpenSpec.ofChange levelLowestSpec)

/-- ITS FALSE NEIGHBOUR: 'it returns false'. Refute it at one input. -/
def levelLowestWrong : ChangeSpec := { name := "levelLowest", fn := fun _ => fun
  | [d1, d2] => { results := [.lit (.bool false)], args := [d1, d2] }
  | _ => none }
def LevelLowestWrongFalsely : Prop := levelLowestRow.holds Try.pinned (OpenSpec.ofChange levelLowestWrong)

/-- 'angeluslaw17.LevelChain': WHATEVER THE INPUT: true; the input reads as it did. -/
def levelChainSpec : ChangeSpec := { name := "levelChain", fn := fun _ => fun
  | [d1, d2] => { results := [.lit (.bool true)], args := [d1, d2] }
  | _ => none }
def levelChainRow : OpenClaim := { program := "ytnhjjgopkfoncaa", sum := "05d0c2b57a7e16a9e43fcc95af80b7ce12a8076991e790a7cd3e0292e5d2a4cd", func := "angelus/angeluslaw17.LevelChain", spec := "levelChain", unfollowed := true, recurses := true, apart := false }
def LevelChainSaid : Prop := levelChainRow.holds Try.pinned (OpenSpec.ofChange levelChainSpec)

/-- ITS FALSE NEIGHBOUR: 'it returns false'. Refute it at one input. -/
def levelChainWrong : ChangeSpec := { name := "levelChain", fn := fun _ => fun
  | [d1, d2] => { results := [.lit (.bool false)], args := [d1, d2] }
  | _ => none }
def LevelChainWrongFalsely : Prop := levelChainRow.holds Try.pinned (OpenSpec.ofChange levelChainWrong)

/- THE SECOND FORM. 'bulk': how many values and letters a reading holds, each counted each time it is reached (what is shared counts as often as it is met; a slice's spare places count too). A statement '..UptoSaid' is the law's where the arguments, and the package variables that the reading takes, are together of bulk at most 1048576: NARROWER than '..Said'. Prove '..Said' where nothing that the law and all that it calls make is longer than what came in: it says more and counts as full. Else prove '..UptoSaid'. A law counts once. -/
mutual
def uptoBulk {H : Type} : DataW H → Nat
  | .lit (.string bytes) => bytes.length + 1
  | .lit _ => 1
  | .nil => 1
  | .ptr d => uptoBulk d + 1
  | .slice elems spare => uptoBulkAll elems + uptoBulkAll spare + 1
  | .agg parts => uptoBulkAll parts + 1
  | .iface _ d => uptoBulk d + 1
  | .map entries => uptoBulkEntries entries + 1
  | .held _ => 1
def uptoBulkAll {H : Type} : List (DataW H) → Nat
  | [] => 0
  | d :: r => uptoBulk d + uptoBulkAll r
def uptoBulkEntries {H : Type} : List (Lit × DataW H) → Nat
  | [] => 0
  | x :: r => uptoBulkEntry x + uptoBulkEntries r
def uptoBulkEntry {H : Type} : Lit × DataW H → Nat
  | (.string bytes, d) => bytes.length + uptoBulk d + 1
  | (_, d) => uptoBulk d + 1
 end
def uptoSmall : (H : Type) → List (DataW H) → Bool := fun _ ds => decide (uptoBulkAll ds ≤ 1048576)
def OpenSpec.upto (s : _root_.Go.ChangeSpec) : _root_.Go.OpenSpec := { _root_.Go.OpenSpec.ofChange s with cond := some uptoSmall }

/-- 'angeluslaw17.LevelDoes', WHERE WHAT IT READS IS OF BULK AT MOST 1048576: true; the input reads as it did. -/
def levelDoesUptoRow : OpenClaim := { program := "ytnhjjgopkfoncaa", sum := "05d0c2b57a7e16a9e43fcc95af80b7ce12a8076991e790a7cd3e0292e5d2a4cd", func := "angelus/angeluslaw17.LevelDoes", spec := "levelDoes", unfollowed := true, recurses := true, apart := false, narrowed := true }
def LevelDoesUptoSaid : Prop := levelDoesUptoRow.holds Try.pinned (OpenSpec.upto levelDoesSpec)

/-- 'angeluslaw17.LevelLowest', WHERE WHAT IT READS IS OF BULK AT MOST 1048576: true; the input reads as it did. -/
def levelLowestUptoRow : OpenClaim := { program := "ytnhjjgopkfoncaa", sum := "05d0c2b57a7e16a9e43fcc95af80b7ce12a8076991e790a7cd3e0292e5d2a4cd", func := "angelus/angeluslaw17.LevelLowest", spec := "levelLowest", unfollowed := true, recurses := true, apart := false, narrowed := true }
def LevelLowestUptoSaid : Prop := levelLowestUptoRow.holds Try.pinned (OpenSpec.upto levelLowestSpec)

/-- 'angeluslaw17.LevelChain', WHERE WHAT IT READS IS OF BULK AT MOST 1048576: true; the input reads as it did. -/
def levelChainUptoRow : OpenClaim := { program := "ytnhjjgopkfoncaa", sum := "05d0c2b57a7e16a9e43fcc95af80b7ce12a8076991e790a7cd3e0292e5d2a4cd", func := "angelus/angeluslaw17.LevelChain", spec := "levelChain", unfollowed := true, recurses := true, apart := false, narrowed := true }
def LevelChainUptoSaid : Prop := levelChainUptoRow.holds Try.pinned (OpenSpec.upto levelChainSpec)

end Rows
end Go.Proofs.Ytnhjjgopkfoncaa

/- The laws' first call; a law's new table. -/
import Derived.Test.YtkibpialacnlhaaTbB
import Derived.Test.YtkibpialacnlhaaTbD
namespace Go.Proofs.Ytkibpialacnlhaa
open Go.RowKit
set_option linter.unusedVariables false
set_option linter.unusedSimpArgs false

theorem tb_new (w : World) : Tb (w.alloc (.cells #[.int .i64 0, .int .i64 0, .int .i64 0, .int .i64 0, .int .i64 0, .int .i64 0, .int .i64 0, .int .i64 0, .int .i64 0, .int .i64 0, .int .i64 0, .int .i64 0, .int .i64 0, .int .i64 0, .int .i64 0, .int .i64 0, .int .i64 0, .int .i64 0, .int .i64 0, .int .i64 0, .int .i64 0, .int .i64 0, .int .i64 0, .int .i64 0, .int .i64 0] 53)) w.heap.size 0 53 [] [] [] := by
  refine ⟨List.replicate 8 (0, 0, 0), rfl, rfl, Nat.zero_le _, rfl, ?_⟩
  exact Holds.new w _ _
theorem tb_below {w0 w w' : World} {g o : Nat} {t : TypeId} {pre post : List Value} {L : List Ent} (h : Tb w g o t pre post L) (hb : Below w0.heap.size w0 w) (hc : Chg (fun k => k = g) w w') (hg : w0.heap.size ≤ g) : Below w0.heap.size w0 w' :=
  Below.chg hb hc hb.size (fun k hk => by subst hk; exact hg)
theorem pushL_nil (e : Ent) : pushL [] e = [e] := rfl
theorem later_nil (e : Ent) : Later [] e := fun _ h => by cases h
end Go.Proofs.Ytkibpialacnlhaa

/- The laws' first call; a law's new table. -/
import Derived.Test.YtfeemjkjgbjejaaTbB
import Derived.Test.YtfeemjkjgbjejaaTbD
namespace Go.Proofs.Ytfeemjkjgbjejaa
open Go.RowKit
set_option linter.unusedVariables false
set_option linter.unusedSimpArgs false

theorem tb_new (w : World) : Tb (w.alloc (.cells #[.int .i64 0, .int .i64 0, .int .i64 0, .int .i64 0, .int .i64 0, .int .i64 0, .int .i64 0, .int .i64 0, .int .i64 0, .int .i64 0, .int .i64 0, .int .i64 0, .int .i64 0, .int .i64 0, .int .i64 0, .int .i64 0, .int .i64 0, .int .i64 0, .int .i64 0, .int .i64 0, .int .i64 0, .int .i64 0, .int .i64 0, .int .i64 0, .int .i64 0] 29)) w.heap.size 0 29 [] [] [] := by
  refine ⟨List.replicate 8 (0, 0, 0), rfl, rfl, Nat.zero_le _, rfl, ?_⟩
  exact Holds.new w _ _
theorem tb_below {w0 w w' : World} {g o : Nat} {t : TypeId} {pre post : List Value} {L : List Ent} (h : Tb w g o t pre post L) (hb : Below w0.heap.size w0 w) (hc : Chg (fun k => k = g) w w') (hg : w0.heap.size ≤ g) : Below w0.heap.size w0 w' :=
  Below.chg hb hc hb.size (fun k hk => by subst hk; exact hg)
theorem pushL_nil (e : Ent) : pushL [] e = [e] := rfl
theorem later_nil (e : Ent) : Later [] e := fun _ h => by cases h
set_option maxHeartbeats 1000000 in
theorem alive_yes (w : World) : Calls Try.prog 6 #[] w fun e w' => e = .returned (.bool true) ∧ Below w.heap.size w w' := by
  have hc : CanE (5, 7, 2) := ⟨by decide, by decide, by decide, by decide, by decide, by decide⟩
  have H1 := Lib.hid (tb_new w)
  have HB1 := Lib.hid (below_alloc w (.cells #[.int .i64 0, .int .i64 0, .int .i64 0, .int .i64 0, .int .i64 0, .int .i64 0, .int .i64 0, .int .i64 0, .int .i64 0, .int .i64 0, .int .i64 0, .int .i64 0, .int .i64 0, .int .i64 0, .int .i64 0, .int .i64 0, .int .i64 0, .int .i64 0, .int .i64 0, .int .i64 0, .int .i64 0, .int .i64 0, .int .i64 0, .int .i64 0, .int .i64 0] 29))
  go_enter Try.func6, Try.ntmps6
  go_wp2_with (first
    | (go_at_call 11; refine (hops_any _ _ _ H4.out.src).mono ?_; rintro e w5 ⟨rfl, hb5⟩; have HB5 := Lib.hid (HB4.out.trans (hb5.mono HB4.out.size)); clear hb5)
    | (go_at_call 10; refine (len_any _ _ _ _ _ _ _ H4.out).mono ?_; rintro e w' ⟨rfl, rfl⟩)
    | (go_at_call 8; refine (last_any _ _ _ _ _ _ _ H3.out).mono ?_; rintro e w4 ⟨he4, hb4⟩; have he4' : e = .returned (.tuple #[.agg #[.int .i64 5, .int .i64 7, .int .i64 2], .bool true]) := he4; subst he4'; have HB4 := Lib.hid ((HB3.out.trans (hb4.mono HB3.out.size)).alloc (HB3.out.trans (hb4.mono HB3.out.size)).size (.cells #[.int .i64 5, .int .i64 7, .int .i64 2] 26)); have H4 := Lib.hid ((H3.out.below hb4).below (below_alloc w4 (.cells #[.int .i64 5, .int .i64 7, .int .i64 2] 26))); have q1 := (Holds.new w4 26 #[.int .i64 5, .int .i64 7, .int .i64 2]).cell 1; clear hb4 he4)
    | (go_at_call 9; refine (add_late 5 7 2 _ _ _ _ _ _ [] 5 7 2 H2.out hc (by decide)).mono ?_; rintro e w3 ⟨rfl, hb3⟩; have HB3 := Lib.hid (HB2.out.trans (hb3.mono HB2.out.size)); have H3 := Lib.hid (H2.out.below hb3); clear hb3)
    | (go_at_call 9; refine (add_any 5 7 2 _ _ _ _ _ _ [] H1.out hc (later_nil _)).mono ?_; rintro e w2 ⟨rfl, h2, hc2⟩; have HB2 := Lib.hid (tb_below H1.out HB1.out hc2 (Nat.le_refl _)); have H2 := Lib.hid (show Tb w2 w.heap.size 0 29 [] [] ([] ++ [(5, 7, 2)]) from h2); clear h2 hc2))
  go_ret
  exact ⟨rfl, HB5.out⟩
end Go.Proofs.Ytfeemjkjgbjejaa

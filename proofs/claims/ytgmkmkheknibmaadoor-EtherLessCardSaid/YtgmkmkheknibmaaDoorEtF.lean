/- The first call of each law. -/
import Derived.Test.YtgmkmkheknibmaaDoorEtC
import Derived.Test.YtgmkmkheknibmaaDoorEtE
namespace Go.Proofs.YtgmkmkheknibmaaDoor
open Go.RowKit
set_option linter.unusedVariables false
set_option linter.unusedSimpArgs false

theorem row_nil (w : World) (k : IntKind) : IntRow w k none 0 0 [] := ⟨rfl, Nat.le_refl _, by simp [maxLen], fun _ => rfl, fun h => absurd h (Nat.lt_irrefl _), fun _ h => by cases h⟩
def onePairs (i : Nat) : Int × Int := if i = 0 then (0, 1) else (1, 2)
theorem one_made : madeM 3 onePairs 2 = [2, 5, 2] := by decide +kernel
theorem one_heard : (earV [2, 5, 2] 1 7 [] 1) = (0, 1) := by decide +kernel
theorem one_both : (earV [2, 5, 2] 5 7 [] 1) = (-1, 4) := by decide +kernel
theorem one_ask : askV (nearV [2, 5, 2] 0) (earV [2, 5, 2] 1 7 []) 0 = 2 := by decide +kernel
theorem step_three (w : World) (B g r : Nat) (h : Lk w B g r [2, 5, 2]) (hT : Tab w) (s : Nat) (hs : s < 18446744073709551616) (z : Int) (hz : (s : Int) = z) : Calls Tryd.prog 8 #[.pointer (some ⟨g, 0, none⟩), .int .u64 z, .int .u64 7, .slice none 0 0] w fun e w' =>
    ∃ q, e = .returned (.slice (some ⟨q, 0, none⟩) 3 3) ∧ Holds w' q 35 (earRow (earV [2, 5, 2] s 7 []) 3) ∧ Below w.heap.size w w' := by
  subst hz
  exact (step_any w B g r _ h hT s 7 hs (by decide) none 0 0 [] (row_nil _ _)).mono fun e w' ⟨q, h1, _, h3, h4⟩ => ⟨q, h1, h3, h4⟩
theorem ask_three (w : World) (B g r : Nat) (h : Lk w B g r [2, 5, 2]) (hT : Tab w) (hN : Net [2, 5, 2]) (q : Nat) (hE : Holds w q 35 (earRow (earV [2, 5, 2] 1 7 []) 3)) :
    Calls Tryd.prog 9 #[.pointer (some ⟨g, 0, none⟩), .int .i64 0, .slice (some ⟨q, 0, none⟩) 3 3] w fun e w' => e = .returned (.int .u64 2) ∧ Below w.heap.size w w' := by
  have := ask_any w B g r _ h hT hN 0 q _ hE
  rw [one_ask] at this
  exact this
set_option maxRecDepth 100000 in
set_option maxHeartbeats 4000000 in
theorem alive_yes (w : World) (hT : Tab w) : Calls Tryd.prog 6 #[] w fun e w' => e = .returned (.bool true) ∧ Below w.heap.size w w' := by
  have hV := Holds.new w 49 #[.int .i64 0, .int .i64 1, .int .i64 1, .int .i64 2]
  have hbA := below_alloc w (.cells #[.int .i64 0, .int .i64 1, .int .i64 1, .int .i64 2] 49)
  have hP : PairRow (w.alloc (.cells #[.int .i64 0, .int .i64 1, .int .i64 1, .int .i64 2] 49)) (some ⟨w.heap.size, 0, none⟩) 2 onePairs := ⟨by omega, fun _ => ⟨w.heap.size, 0, rfl, hV.lt, fun i hi => by
    have : i = 0 ∨ i = 1 := by omega
    rcases this with rfl | rfl
    · exact ⟨hV.cell 0, hV.cell 1⟩
    · exact ⟨hV.cell 2, hV.cell 3⟩⟩⟩
  have hboth : Calls Tryd.prog 7 #[.int .i64 3, .slice (some ⟨w.heap.size, 0, none⟩) 2 2] (w.alloc (.cells #[.int .i64 0, .int .i64 1, .int .i64 1, .int .i64 2] 49)) _ := both_any _ (hT.below hbA hT.2) 3 (by decide) (by decide) _ 2 2 onePairs hP
  rw [one_made] at hboth
  have HBA := Lib.hid hbA
  clear hV hP hbA
  go_enter Tryd.func6, Tryd.ntmps6
  go_wp2_with (first
    | (go_at_call 7; (with_reducible refine hboth.mono ?_); rintro e w2 ⟨g, r, gm, rfl, hrun⟩; have HB2 := Lib.hid (HBA.out.trans (hrun.s.below.mono HBA.out.size)); have hst := step_three w2 _ g r hrun.s.lk hrun.s.tab 1 (by decide) 1 rfl; have HR2 := Lib.hid hrun; clear hrun)
    | (go_at_call 8; (with_reducible refine hst.mono ?_); rintro e w3 ⟨q1, rfl, hr1, hb3⟩; have hR3 := HR2.out.below' hb3; have hst2 := step_three w3 _ g r hR3.s.lk hR3.s.tab 5 (by decide) 5 rfl; have HR3 := Lib.hid hR3; have HB3 := Lib.hid (HB2.out.trans (hb3.mono HB2.out.size)); have HQ1 := Lib.hid hr1; clear hR3 hb3 hr1 hst)
    | (go_at_call 8; (with_reducible refine hst2.mono ?_); rintro e w4 ⟨q2, rfl, hr2, hb4⟩; have hR4 := HR3.out.below' hb4; have hr1 := HQ1.out.below hb4 HQ1.out.lt; have hask := ask_three w4 _ g r hR4.s.lk hR4.s.tab hR4.s.net q1 hr1; have HB4 := Lib.hid (HB3.out.trans (hb4.mono HB3.out.size)); have x0 := hr1.cell (1 * 2); have x1 := hr1.cell (1 * 2 + 1); have y0 := hr2.cell (1 * 2); have y1 := hr2.cell (1 * 2 + 1); rw [earRow_from _ (by decide), one_heard] at x0; rw [earRow_why _ (by decide), one_heard] at x1; rw [earRow_from _ (by decide), one_both] at y0; rw [earRow_why _ (by decide), one_both] at y1; clear hR4 hb4 hr1 hr2)
    | (go_at_call 9; (with_reducible refine hask.mono ?_); rintro e w5 ⟨rfl, hb5⟩; have HB5 := Lib.hid (HB4.out.trans (hb5.mono HB4.out.size)); clear hb5))
  go_ret
  exact ⟨rfl, HB5.out⟩
end Go.Proofs.YtgmkmkheknibmaaDoor

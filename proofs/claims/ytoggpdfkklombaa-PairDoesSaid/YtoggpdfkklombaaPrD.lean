/- Package pair: Beat, asked, Hear. -/
import Derived.Test.YtoggpdfkklombaaPrC
import Derived.BigQuiet
namespace Go.Proofs.Ytoggpdfkklombaa
open Go.RowKit
set_option linter.unusedVariables false
set_option linter.unusedSimpArgs false

theorem pbeat_nil (w : World) : Calls Try.prog 19 #[.pointer none] w fun e w' => e = .returned (.bool false) ∧ w = w' := by
  go_enter Try.func19, Try.ntmps19
  go_wp2
  go_ret
  exact ⟨rfl, rfl⟩
theorem Wp.of {w0 w : World} {g : Nat} {p : PS} (h : PGoes g p w0 w) : Wp w0 g 68 (parC p) w := ⟨h.1, h.2⟩
set_option maxHeartbeats 2000000 in
set_option maxRecDepth 100000 in
theorem pbeat_any (w : World) (g : Nat) (p : PS) (h : Par w g p) (hi : PInv p) : Calls Try.prog 19 #[.pointer (some ⟨g, 0, none⟩)] w fun e w' => e = .returned (.bool (beatB p)) ∧ PGoes g (beatP p) w w' := by
  have c1 := h.c1
  have c5 := h.c5
  have c7 := h.c7
  have f5 := Holds.soft h 5
  have f7 := Holds.soft h 7
  obtain ⟨me, b, f, t, s, ro, va, re⟩ := p
  have ir := hi.rests
  have io := hi.rounds
  have iv := hi.vain
  dsimp only at c1 c5 c7 ir io iv
  cases b with
  | false =>
    have hB : beatB ⟨me, false, f, t, s, ro, va, re⟩ = false := rfl
    rw [hB]
    have ew := IntWalk.i64_in (re - 1) (by omega)
    by_cases hr : re - 1 < 0
    · have hV : beatP ⟨me, false, f, t, s, ro, va, re⟩ = ⟨me, false, f, t, s, ro, va, 0⟩ := by unfold beatP; simp [hr]
      have HE := Lib.hid (((Wp.start h).put 7 (.int .i64 0)).to (cs' := parC ⟨me, false, f, t, s, ro, va, 0⟩) rfl).goes
      have hr' : re - 1 ≤ 0 := by omega
      rw [hV]
      clear hV h hi hB io iv c5 f5 ir
      go_enter Try.func19, Try.ntmps19
      go_wp2
      go_ret
      exact ⟨rfl, HE.out⟩
    · have hV : beatP ⟨me, false, f, t, s, ro, va, re⟩ = ⟨me, false, f, t, s, ro, va, re - 1⟩ := by unfold beatP; simp [hr]
      have HE := Lib.hid (((Wp.start h).put 7 (.int .i64 (re - 1))).to (cs' := parC ⟨me, false, f, t, s, ro, va, re - 1⟩) rfl).goes
      rw [hV]
      clear hV h hi hB io iv c5 f5 ir
      go_enter Try.func19, Try.ntmps19
      go_wp2
      go_ret
      exact ⟨rfl, HE.out⟩
  | true =>
    have ew := IntWalk.i64_in (ro + 1) (by omega)
    have h1 := ((Wp.start h).put 5 (.int .i64 (ro + 1))).to (cs' := parC ⟨me, true, f, t, s, ro + 1, va, re⟩) rfl
    by_cases hr : ro + 1 < 2
    · have hV : beatP ⟨me, true, f, t, s, ro, va, re⟩ = ⟨me, true, f, t, s, ro + 1, va, re⟩ := by unfold beatP; simp [hr]
      have hB : beatB ⟨me, true, f, t, s, ro, va, re⟩ = false := by unfold beatB; simp [hr]
      have HE := Lib.hid h1.goes
      rw [hV, hB]
      clear hV h hi hB iv h1 c7 f7 ir io
      go_enter Try.func19, Try.ntmps19
      go_wp2
      go_ret
      exact ⟨rfl, HE.out⟩
    · have hst := pstill_any _ g _ h1.node
      have H1 := Lib.hid h1.chg
      have hvv : va = 0 ∨ va = 1 ∨ va = 2 := by omega
      rcases hvv with rfl | rfl | rfl
      · have hV : beatP ⟨me, true, f, t, s, ro, 0, re⟩ = ⟨me, false, 0, 0, 0, 0, 1, 1⟩ := by unfold beatP; simp [hr]
        have hB : beatB ⟨me, true, f, t, s, ro, 0, re⟩ = false := by unfold beatB; simp
        rw [hV, hB]
        clear hV h hi hB iv h1 c7 f7 ir io
        go_enter Try.func19, Try.ntmps19
        go_wp2_with (go_at_call 32; refine hst.mono ?_; rintro e w1 ⟨rfl, hg1⟩; have c6 := hg1.1.c6; have c7 := hg1.1.c7; have f6 := Holds.soft hg1.1 6; have f7 := Holds.soft hg1.1 7; have HG := Lib.hid (show PGoes g ⟨me, false, 0, 0, 0, 0, 1, 1⟩ w _ from PGoes.before ((((Wp.start hg1.1).put 6 (.int .i64 1)).put 7 (.int .i64 1)).to (cs' := parC ⟨me, false, 0, 0, 0, 0, 1, 1⟩) rfl).goes (H1.out.trans hg1.2 (fun _ _ e => e))); unfold stillP at c6 c7; dsimp only at c6 c7; clear hg1 hst)
        go_ret
        exact ⟨rfl, HG.out⟩
      · have hV : beatP ⟨me, true, f, t, s, ro, 1, re⟩ = ⟨me, false, 0, 0, 0, 0, 2, 3⟩ := by unfold beatP; simp [hr]
        have hB : beatB ⟨me, true, f, t, s, ro, 1, re⟩ = false := by unfold beatB; simp
        rw [hV, hB]
        clear hV h hi hB iv h1 c7 f7 ir io
        go_enter Try.func19, Try.ntmps19
        go_wp2_with (go_at_call 32; refine hst.mono ?_; rintro e w1 ⟨rfl, hg1⟩; have c6 := hg1.1.c6; have c7 := hg1.1.c7; have f6 := Holds.soft hg1.1 6; have f7 := Holds.soft hg1.1 7; have HG := Lib.hid (show PGoes g ⟨me, false, 0, 0, 0, 0, 2, 3⟩ w _ from PGoes.before ((((Wp.start hg1.1).put 6 (.int .i64 2)).put 7 (.int .i64 3)).to (cs' := parC ⟨me, false, 0, 0, 0, 0, 2, 3⟩) rfl).goes (H1.out.trans hg1.2 (fun _ _ e => e))); unfold stillP at c6 c7; dsimp only at c6 c7; clear hg1 hst)
        go_ret
        exact ⟨rfl, HG.out⟩
      · have hV : beatP ⟨me, true, f, t, s, ro, 2, re⟩ = ⟨me, false, 0, 0, 0, 0, 0, re⟩ := by unfold beatP; simp [hr]
        have hB : beatB ⟨me, true, f, t, s, ro, 2, re⟩ = true := by unfold beatB; simp [hr]
        rw [hV, hB]
        clear hV h hi hB iv h1 c7 f7 ir io
        go_enter Try.func19, Try.ntmps19
        go_wp2_with (go_at_call 32; refine hst.mono ?_; rintro e w1 ⟨rfl, hg1⟩; have c6 := hg1.1.c6; have f6 := Holds.soft hg1.1 6; have HG := Lib.hid (show PGoes g ⟨me, false, 0, 0, 0, 0, 0, re⟩ w _ from PGoes.before ((((Wp.start hg1.1).put 6 (.int .i64 3)).put 6 (.int .i64 0)).to (cs' := parC ⟨me, false, 0, 0, 0, 0, 0, re⟩) rfl).goes (H1.out.trans hg1.2 (fun _ _ e => e))); unfold stillP at c6; dsimp only at c6; clear hg1 hst)
        go_ret
        exact ⟨rfl, HG.out⟩
end Go.Proofs.Ytoggpdfkklombaa

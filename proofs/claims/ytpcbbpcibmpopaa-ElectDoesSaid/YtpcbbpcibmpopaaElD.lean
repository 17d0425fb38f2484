/- Package elect: rounds, words of its own, new lives, new nodes. -/
import Derived.Test.YtpcbbpcibmpopaaElC
import Derived.Deep.RegionHeld3
import Derived.BigRegion
namespace Go.Proofs.Ytpcbbpcibmpopaa
open Go.RowKit
set_option linter.unusedVariables false
set_option linter.unusedSimpArgs false

theorem beat_nil (w : World) : Calls Try.prog 15 #[.pointer none] w fun e w' => e = .returned (.bool false) ∧ w = w' := by
  go_enter Try.func15, Try.ntmps15
  go_wp2
  go_ret
  exact ⟨rfl, rfl⟩
theorem gself (w : World) (row : Option Nat) : w.grownBy w row := ⟨rfl, rfl, rfl, Nat.le_refl _, fun _ _ _ => rfl⟩
theorem gset (w : World) (nq g i : Nat) (u : Value) : w.grownBy ((w.drewN nq).setCell ⟨g, i, none⟩ u) (some g) := grown_trans (grown_drewN (gself w (some g)) nq) (grown_set _ _ _ _)
/-- What Beat answers, and what becomes of the node. -/
def Beaten (B g b n : Nat) (s : St) (w : World) (e : Ending) (w' : World) : Prop := e = .returned (.bool (beatB s)) ∧ Now B g b n (beatS s) w w'
theorem Now.of_grown {w w' : World} {B g b n : Nat} {s' : St} (h : En w' B g b n s') (hg : w.grownBy w' (some g)) : Now B g b n s' w w' := ⟨b, h, Chg.of_grown hg (fun k e => by cases e; exact .inl rfl), .inl rfl⟩
theorem beat_tail {w : World} {B g b n : Nat} {s : St} (h : En w B g b n s) (hi : Inv { s with root := s.me, waited := 0, quiet := s.ign }) (V : World) (hV : Holds V g 58 (nodeC { s with waited := s.waited + 1 } b)) (hg : w.grownBy V (some g)) :
    V.cell? ⟨g, 0, none⟩ = some (.int .i64 s.me) ∧ V.cell? ⟨g, 2, none⟩ = some (.int .i64 s.ign) ∧ V.cell? ⟨g, 5, none⟩ = some (.int .i64 s.root) ∧ V.cell? ⟨g, 6, none⟩ = some (.int .i64 (s.waited + 1)) ∧ V.cell? ⟨g, 7, none⟩ = some (.int .i64 s.quiet) ∧
    V.frozen? ⟨g, 5, none⟩ = false ∧ V.frozen? ⟨g, 6, none⟩ = false ∧ V.frozen? ⟨g, 7, none⟩ = false ∧
    Hid (Now B g b n { s with root := s.me, waited := 0, quiet := s.ign } w (((V.setCell ⟨g, 5, none⟩ (.int .i64 s.me)).setCell ⟨g, 6, none⟩ (.int .i64 0)).setCell ⟨g, 7, none⟩ (.int .i64 s.ign))) := by
  have hd : Holds V g 58 (nodeC { s with waited := s.waited + 1 } b) := hV
  have h1 := ((hd.put 5 (.int .i64 s.me)).put 6 (.int .i64 0)).put 7 (.int .i64 s.ign)
  have g1 : w.grownBy V (some g) := hg
  have g2 := grown_trans (grown_trans (grown_trans g1 (grown_set _ g 5 (.int .i64 s.me))) (grown_set _ g 6 (.int .i64 0))) (grown_set _ g 7 (.int .i64 s.ign))
  exact ⟨hd.cell 0, hd.cell 2, hd.cell 5, hd.cell 6, hd.cell 7, hd.soft 5, hd.soft 6, hd.soft 7, Lib.hid (Now.of_grown ⟨h.newer, h1, h.km.same (g2.block b h.ltb (by simpa using h.ne.symm)), hi⟩ g2)⟩
theorem beat_any (w : World) (B g b n : Nat) (s : St) (h : En w B g b n s) : Calls Try.prog 15 #[.pointer (some ⟨g, 0, none⟩)] w (Beaten B g b n s w) := by
  have hm := mine_any w B g b n s h
  obtain ⟨q0, q1⟩ := h.inv.quiet
  obtain ⟨t0, t1⟩ := h.inv.waited
  obtain ⟨o0, o1⟩ := h.inv.tmo
  by_cases hr : s.root = s.me
  · rw [decide_eq_true hr] at hm
    have hB : beatB s = false := by unfold beatB; exact decide_eq_false (fun e => e.1 hr)
    have hI := h.inv.beat
    have hS : beatS s = { s with quiet := max 0 (s.quiet - 1) } := by unfold beatS; rw [if_pos hr]
    rw [hS] at hI
    unfold Beaten
    rw [hB, hS]
    have hfin := fun (nq : Nat) (V : Int) (hV : max 0 (s.quiet - 1) = V) => (h.drewN nq).put 7 (.int .i64 V) (s' := { s with quiet := max 0 (s.quiet - 1) }) (by rw [hV]; rfl) rfl hI
    have HF := Lib.hid hfin
    have hcl := fun nq => (h.drewN nq).cells
    have f7 := fun nq => (h.drewN nq).holds.soft 7
    obtain ⟨_, _, _, _, _, _, _, c7, _⟩ := h.cells
    have e1 := IntWalk.i64_in (s.quiet - 1) (by omega)
    have f7 := h.holds.soft 7
    clear h hI hS hB hfin hcl hr
    by_cases hq : s.quiet = 0
    · have hd : decide (0 < s.quiet - 1) = false := decide_eq_false (by omega)
      go_enter Try.func15, Try.ntmps15
      go_wp2_with (go_at_call 14; refine hm.mono ?_; rintro e w' ⟨rfl, nq, rfl⟩)
      go_ret
      exact ⟨rfl, Now.of_grown (HF.out nq _ (by omega)) (gset _ _ _ _ _)⟩
    · have hd : ¬ s.quiet - 1 < 0 := by omega
      have hd2 : decide (s.quiet - 1 < 0) = false := decide_eq_false (by omega)
      go_enter Try.func15, Try.ntmps15
      go_wp2_with (go_at_call 14; refine hm.mono ?_; rintro e w' ⟨rfl, nq, rfl⟩)
      all_goals go_ret
      all_goals exact ⟨rfl, Now.of_grown (HF.out nq _ (by omega)) (gset _ _ _ _ _)⟩
  · rw [decide_eq_false hr] at hm
    have e1 := IntWalk.i64_in (s.waited + 1) (by omega)
    have hcl := fun nq => (h.drewN nq).cells
    have f6 := fun nq => (h.drewN nq).holds.soft 6
    have hI := h.inv.beat
    have hset : ∀ nq, Holds ((w.drewN nq).setCell ⟨g, 6, none⟩ (.int .i64 (s.waited + 1))) g 58 (nodeC { s with waited := s.waited + 1 } b) := fun nq => (h.drewN nq).holds.put 6 _
    obtain ⟨_, c1, _, _, _, _, c6, _, _⟩ := h.cells
    have f6 := h.holds.soft 6
    by_cases hlt : s.waited + 1 < s.tmo
    · have hB : beatB s = false := by unfold beatB; exact decide_eq_false (fun e => by omega)
      have hS : beatS s = { s with waited := s.waited + 1 } := by unfold beatS; rw [if_neg hr, if_pos hlt]
      rw [hS] at hI
      unfold Beaten
      rw [hB, hS]
      have hfin := fun (nq : Nat) => (h.drewN nq).put 6 (.int .i64 (s.waited + 1)) (s' := { s with waited := s.waited + 1 }) rfl rfl hI
      have HF := Lib.hid hfin
      have HS := Lib.hid hset
      have d1 : decide (s.waited + 1 < s.tmo) = true := decide_eq_true hlt
      clear hr hB hS hI hfin hset h hcl
      go_enter Try.func15, Try.ntmps15
      go_upto_region 7 with (go_at_call 14; refine hm.mono ?_; rintro e w' ⟨rfl, n0, rfl⟩)
      have k1 : ((w.drewN n0).setCell ⟨g, 6, none⟩ (.int .i64 (s.waited + 1))).cell? ⟨g, 1, none⟩ = some (.int .i64 s.tmo) := (HS.out n0).cell 1
      have k6 : ((w.drewN n0).setCell ⟨g, 6, none⟩ (.int .i64 (s.waited + 1))).cell? ⟨g, 6, none⟩ = some (.int .i64 (s.waited + 1)) := (HS.out n0).cell 6
      go_quiet (fail)
      go_wp2
      go_ret
      exact ⟨rfl, (Now.of_grown (HF.out _) (gset _ _ _ _ _)).of_below (below_drewN (Below.refl _ _) _)⟩
    · have hB : beatB s = true := by unfold beatB; exact decide_eq_true ⟨hr, by omega⟩
      have hS : beatS s = { s with root := s.me, waited := 0, quiet := s.ign } := by unfold beatS; rw [if_neg hr, if_neg hlt]
      rw [hS] at hI
      unfold Beaten
      rw [hB, hS]
      have hfin := beat_tail h hI
      have HF := Lib.hid hfin
      have HS := Lib.hid hset
      have d1 : decide (s.waited + 1 < s.tmo) = false := decide_eq_false hlt
      clear hr hB hS hI hfin hset h hcl
      go_enter Try.func15, Try.ntmps15
      go_upto_region 7 with (go_at_call 14; refine hm.mono ?_; rintro e w' ⟨rfl, n0, rfl⟩)
      have k1 : ((w.drewN n0).setCell ⟨g, 6, none⟩ (.int .i64 (s.waited + 1))).cell? ⟨g, 1, none⟩ = some (.int .i64 s.tmo) := (HS.out n0).cell 1
      have k6 : ((w.drewN n0).setCell ⟨g, 6, none⟩ (.int .i64 (s.waited + 1))).cell? ⟨g, 6, none⟩ = some (.int .i64 (s.waited + 1)) := (HS.out n0).cell 6
      go_quiet (fail)
      go_upto_region 9 with fail
      have hV := ((HS.out n0).drewN nq)
      have hg := grown_drewN (gset w n0 g 6 (.int .i64 (s.waited + 1))) nq
      obtain ⟨y0, y2, y5, y6, y7, z5, z6, z7, HN⟩ := HF.out _ hV hg
      clear HF HS k1 k6 hm f6
      generalize (((w.drewN n0).setCell ⟨g, 6, none⟩ (.int .i64 (s.waited + 1))).drewN nq) = V at *
      clear hV hg
      go_region
      go_wp2
      go_ret
      exact ⟨rfl, HN.out.of_below (Below.refl _ _).drew⟩
end Go.Proofs.Ytpcbbpcibmpopaa

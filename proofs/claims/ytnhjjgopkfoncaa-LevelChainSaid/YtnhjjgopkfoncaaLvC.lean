/- The document's node of layer 17; what the stage's laws ask first. -/
import Derived.Test.YtnhjjgopkfoncaaLvB
namespace Go.Proofs.Ytnhjjgopkfoncaa
open Go.RowKit
set_option linter.unusedVariables false
set_option linter.unusedSimpArgs false

/-- How the document's node lies. -/
def Dl (w : World) (g : Nat) (s : LS) : Prop := Holds w g 40 (levC s)
section
variable {w w' : World} {g : Nat} {s : LS}
theorem Dl.c0 (h : Dl w g s) : w.cell? ⟨g, 0, none⟩ = some (.int .i64 s.me) := Holds.cell h 0
theorem Dl.c1 (h : Dl w g s) : w.cell? ⟨g, 1, none⟩ = some (.int .i64 s.level) := Holds.cell h 1
theorem Dl.c2 (h : Dl w g s) : w.cell? ⟨g, 2, none⟩ = some (.int .i64 s.parent) := Holds.cell h 2
theorem Dl.below {B : Nat} (h : Dl w g s) (hb : Below B w w') (hg : g < B) : Dl w' g s := Holds.below h hb hg
end
/-- What a call of the document's leaves. -/
def DGoes (g : Nat) (s' : LS) (w w' : World) : Prop := Dl w' g s' ∧ Chg (fun k => k = g) w w'
theorem rlnew_any (w : World) (me : Int) : Calls Try.prog 13 #[.int .i64 me] w fun e w' => e = .returned (.pointer (some ⟨w.heap.size, 0, none⟩)) ∧ Dl w' w.heap.size (newL me) ∧ Below w.heap.size w w' := by
  go_enter Try.func13, Try.ntmps13
  go_wp2
  go_ret
  exact ⟨rfl, Holds.new _ _ _, below_alloc _ _⟩
/-- While the document's node hears: its own cells are written, nothing else is. -/
structure Rp (w0 : World) (g : Nat) (cs : Array Value) (w : World) : Prop where
  node : Holds w g 40 cs
  chg : Chg (fun k => k = g) w0 w
  size : w.heap.size = w0.heap.size
section
variable {w0 w w' : World} {g : Nat} {s : LS} {cs : Array Value}
theorem Rp.start (h : Dl w0 g s) : Rp w0 g (levC s) w0 := ⟨h, Chg.refl _ _, rfl⟩
theorem Rp.put (h : Rp w0 g cs w) (i : Nat) (u : Value) : Rp w0 g (cs.setIfInBounds i u) (w.setCell ⟨g, i, none⟩ u) :=
  ⟨h.node.put i u, h.chg.trans (Chg.set (S := fun k => k = g) w g i u rfl) (fun _ _ e => e), by rw [← h.size]; simp [World.setCell]⟩
end
theorem rlhear_end (w W : World) (g : Nat) (s s' : LS) (h : Rp w g (levC s') W) : ∃ V, V = W.alloc (.cells (levC s) 40) ∧ V.cell? ⟨g, 1, none⟩ = some (.int .i64 s'.level) ∧ V.cell? ⟨g, 2, none⟩ = some (.int .i64 s'.parent) ∧ V.cell? ⟨w.heap.size, 1, none⟩ = some (.int .i64 s.level) ∧ V.cell? ⟨w.heap.size, 2, none⟩ = some (.int .i64 s.parent) ∧ Hid (∀ n, DGoes g s' w (V.drewN n)) := by
  have hw := Holds.new W 40 (levC s)
  rw [h.size] at hw
  have hn := h.node.alloc (.cells (levC s) 40)
  exact ⟨_, rfl, hn.cell 1, hn.cell 2, hw.cell 1, hw.cell 2, Lib.hid (fun n => ⟨hn, (h.chg.trans (Chg.of_below (fun _ => False) (below_alloc W _)) (fun _ _ e => e.elim)).drewN n⟩)⟩
set_option maxHeartbeats 2000000 in
set_option maxRecDepth 100000 in
theorem rlhear_any (w : World) (g : Nat) (s : LS) (h : Dl w g s) (hi : LInv s) (a l : Int) (fa : Fits a) (fl : Fits l) :
    Calls Try.prog 14 #[.pointer (some ⟨g, 0, none⟩), .int .i64 a, .int .i64 l] w fun e w' => e = .returned (.bool (otherL s (hearL s a l))) ∧ DGoes g (hearL s a l) w w' := by
  have c0 := h.c0
  have c1 := h.c1
  have c2 := h.c2
  have f1 := Holds.soft h 1
  have f2 := Holds.soft h 2
  have hgl : g < w.heap.size := Holds.lt h
  have hsame : otherL s s = false := by unfold otherL; simp
  by_cases hy : heardB s a l = true
  · have hh : hearL s a l = heedL s a (l + 1) := by unfold hearL; rw [if_pos hy]
    have hy' := hy
    unfold heardB at hy'
    rw [Bool.and_eq_true, findB_iff] at hy'
    obtain ⟨⟨⟨a0, a1⟩, l0, l1⟩, hm⟩ := hy'
    have d0 : decide (a < 0) = false := decide_eq_false (by omega)
    have d1 : decide (63 < a) = false := decide_eq_false (by omega)
    have d2 : decide (l < 0) = false := decide_eq_false (by omega)
    have d3 : decide (63 < l) = false := decide_eq_false (by omega)
    have d4 : (a == s.me) = false := by simpa using hm
    have ew := IntWalk.i64_in (l + 1) (by omega)
    have hR := Rp.start h
    have hlev : s.level < 0 ↔ s.level = -1 := by rcases hi.has with ⟨e, _⟩ | ⟨e, _⟩ <;> omega
    rw [hh]
    clear hy hh hm h fa fl hi
    have hcase : ((a == s.parent) = true ∧ (l == 63) = true ∧ heedL s a (l + 1) = newL s.me ∨ (a == s.parent) = true ∧ (l == 63) = false ∧ heedL s a (l + 1) = ⟨s.me, l + 1, s.parent⟩) ∨
        ((a == s.parent) = false ∧ decide (l < 63) = true ∧ decide (s.level < 0) = true ∧ heedL s a (l + 1) = ⟨s.me, l + 1, a⟩ ∨ (a == s.parent) = false ∧ decide (l < 63) = true ∧ decide (s.level < 0) = false ∧ decide (l + 1 < s.level) = true ∧ heedL s a (l + 1) = ⟨s.me, l + 1, a⟩) ∨
        ((a == s.parent) = false ∧ decide (l < 63) = false ∧ heedL s a (l + 1) = s ∨ (a == s.parent) = false ∧ decide (l < 63) = true ∧ decide (s.level < 0) = false ∧ decide (l + 1 < s.level) = false ∧ heedL s a (l + 1) = s) := by
      unfold heedL
      by_cases e1 : a = s.parent
      · by_cases e2 : l = 63
        · refine .inl (.inl ⟨by simp [e1], by simp [e2], ?_⟩)
          rw [if_pos (by omega), if_pos e1]
        · refine .inl (.inr ⟨by simp [e1], by simp [e2], ?_⟩)
          rw [if_neg (by omega), if_pos (.inl e1), e1]
      · by_cases e2 : l = 63
        · refine .inr (.inr (.inl ⟨by simp [e1], decide_eq_false (by omega), ?_⟩))
          rw [if_pos (by omega), if_neg e1]
        · by_cases e3 : s.level < 0
          · refine .inr (.inl (.inl ⟨by simp [e1], decide_eq_true (by omega), decide_eq_true e3, ?_⟩))
            rw [if_neg (by omega), if_pos (.inr (.inl (hlev.1 e3)))]
          · by_cases e4 : l + 1 < s.level
            · refine .inr (.inl (.inr ⟨by simp [e1], decide_eq_true (by omega), decide_eq_false e3, decide_eq_true e4, ?_⟩))
              rw [if_neg (by omega), if_pos (.inr (.inr e4))]
            · refine .inr (.inr (.inr ⟨by simp [e1], decide_eq_true (by omega), decide_eq_false e3, decide_eq_false e4, ?_⟩))
              rw [if_neg (by omega), if_neg (by intro k; rcases k with k | k | k <;> omega)]
    obtain ⟨S', hS⟩ : ∃ S', heedL s a (l + 1) = S' := ⟨_, rfl⟩
    rw [hS] at hcase ⊢
    obtain ⟨O, hO⟩ : ∃ O, otherL s S' = O := ⟨_, rfl⟩
    rw [hO]
    clear hS hlev
    rcases hcase with hcase | hcase | hcase
    · rcases hcase with ⟨k1, k2, hS⟩ | ⟨k1, k2, hS⟩
      · have hE := rlhear_end w _ g s S' (by rw [hS]; exact ((hR.put 1 (.int .i64 (l + 1))).put 1 (.int .i64 (-1))).put 2 (.int .i64 (-1)))
        clear hR hS
        go_enter Try.func14, Try.ntmps14
        go_upto_region 12 with fail
        obtain ⟨V, hV, v1, v2, v3, v4, HE⟩ := hE
        rw [show levC s = #[.int .i64 s.me, .int .i64 s.level, .int .i64 s.parent] from rfl] at hV
        rw [← hV]
        clear hV
        unfold otherL at hO
        cases z1 : (S'.level != s.level) <;> cases z2 : (S'.parent != s.parent)
        all_goals
          rw [z1, z2] at hO
          simp only [Bool.or_false, Bool.or_true, Bool.false_or, Bool.true_or] at hO
          subst hO
          go_quiet (fail)
          go_wp2
          go_ret
          exact ⟨rfl, HE.out _⟩
      · have hE := rlhear_end w _ g s S' (by rw [hS]; exact hR.put 1 (.int .i64 (l + 1)))
        clear hR hS
        go_enter Try.func14, Try.ntmps14
        go_upto_region 12 with fail
        obtain ⟨V, hV, v1, v2, v3, v4, HE⟩ := hE
        rw [show levC s = #[.int .i64 s.me, .int .i64 s.level, .int .i64 s.parent] from rfl] at hV
        rw [← hV]
        clear hV
        unfold otherL at hO
        cases z1 : (S'.level != s.level) <;> cases z2 : (S'.parent != s.parent)
        all_goals
          rw [z1, z2] at hO
          simp only [Bool.or_false, Bool.or_true, Bool.false_or, Bool.true_or] at hO
          subst hO
          go_quiet (fail)
          go_wp2
          go_ret
          exact ⟨rfl, HE.out _⟩
    · have hS : S' = ⟨s.me, l + 1, a⟩ := by rcases hcase with ⟨-, -, -, e⟩ | ⟨-, -, -, -, e⟩ <;> exact e
      have hE := rlhear_end w _ g s S' (by rw [hS]; exact (hR.put 1 (.int .i64 (l + 1))).put 2 (.int .i64 a))
      clear hR hS
      rcases hcase with ⟨k1, k2, k3, -⟩ | ⟨k1, k2, k3, k4, -⟩ <;>
      · skip
        go_enter Try.func14, Try.ntmps14
        go_upto_region 12 with fail
        obtain ⟨V, hV, v1, v2, v3, v4, HE⟩ := hE
        rw [show levC s = #[.int .i64 s.me, .int .i64 s.level, .int .i64 s.parent] from rfl] at hV
        rw [← hV]
        clear hV
        unfold otherL at hO
        cases z1 : (S'.level != s.level) <;> cases z2 : (S'.parent != s.parent)
        all_goals
          rw [z1, z2] at hO
          simp only [Bool.or_false, Bool.or_true, Bool.false_or, Bool.true_or] at hO
          subst hO
          go_quiet (fail)
          go_wp2
          go_ret
          exact ⟨rfl, HE.out _⟩
    · have hS : S' = s := by rcases hcase with ⟨-, -, e⟩ | ⟨-, -, -, -, e⟩ <;> exact e
      have hE := rlhear_end w _ g s S' (by rw [hS]; exact hR)
      clear hR hS
      rcases hcase with ⟨k1, k2, -⟩ | ⟨k1, k2, k3, k4, -⟩ <;>
      · skip
        go_enter Try.func14, Try.ntmps14
        go_upto_region 12 with fail
        obtain ⟨V, hV, v1, v2, v3, v4, HE⟩ := hE
        rw [show levC s = #[.int .i64 s.me, .int .i64 s.level, .int .i64 s.parent] from rfl] at hV
        rw [← hV]
        clear hV
        unfold otherL at hO
        cases z1 : (S'.level != s.level) <;> cases z2 : (S'.parent != s.parent)
        all_goals
          rw [z1, z2] at hO
          simp only [Bool.or_false, Bool.or_true, Bool.false_or, Bool.true_or] at hO
          subst hO
          go_quiet (fail)
          go_wp2
          go_ret
          exact ⟨rfl, HE.out _⟩
  · have hh : hearL s a l = s := by unfold hearL; rw [if_neg hy]
    have hcase : decide (a < 0) = true ∨ decide (a < 0) = false ∧ decide (63 < a) = true ∨ decide (a < 0) = false ∧ decide (63 < a) = false ∧ decide (l < 0) = true ∨ decide (a < 0) = false ∧ decide (63 < a) = false ∧ decide (l < 0) = false ∧ decide (63 < l) = true ∨ decide (a < 0) = false ∧ decide (63 < a) = false ∧ decide (l < 0) = false ∧ decide (63 < l) = false ∧ (a == s.me) = true := by
      unfold heardB findB at hy
      by_cases e1 : a < 0 <;> by_cases e2 : 63 < a <;> by_cases e3 : l < 0 <;> by_cases e4 : 63 < l <;> by_cases e5 : a = s.me <;> simp [e1, e2, e3, e4, e5] at hy ⊢ <;> omega
    have HE := Lib.hid (show DGoes g s w w from ⟨h, Chg.refl _ _⟩)
    rw [hh, hsame]
    clear h hi fa fl hh hy hsame
    rcases hcase with k | ⟨k1, k2⟩ | ⟨k1, k2, k3⟩ | ⟨k1, k2, k3, k4⟩ | ⟨k1, k2, k3, k4, k5⟩ <;>
    · go_enter Try.func14, Try.ntmps14
      go_wp2
      go_ret
      exact ⟨rfl, HE.out⟩
/-- What the stage's laws ask first. -/
theorem alive_yes (w : World) : Calls Try.prog 6 #[] w fun e w' => e = .returned (.bool true) ∧ Below w.heap.size w w' := by
  have hnew := fun W => lnew_yes W 9 (by decide)
  have hfin : ∀ (w1 w2 w3 : World) (g : Nat), g = w.heap.size → Below w.heap.size w w1 → Chg (fun k => k = g) w1 w2 → Chg (fun k => k = g) w2 w3 → Below w.heap.size w w3 := fun w1 w2 w3 g hg h1 h2 h3 =>
    Below.chg (Below.chg h1 h2 h1.size (fun k e => by omega)) h3 (by have := h1.size; have := h2.size; omega) (fun k e => by omega)
  have HF := Lib.hid hfin
  clear hfin
  go_enter Try.func6, Try.ntmps6
  go_wp2_with (first
    | (go_at_call 7; refine (hnew _).mono ?_; rintro e w1 ⟨rfl, hE, hb1⟩; have HB1 := Lib.hid hb1; obtain ⟨g, hg⟩ : ∃ g, w.heap.size = g := ⟨_, rfl⟩; rw [hg] at hE ⊢; have hc1 : Calls Try.prog 12 #[.pointer (some ⟨g, 0, none⟩), .agg #[.int .i64 3, .int .i64 1]] w1 fun e w' => e = .returned (.bool true) ∧ LGoes g ⟨9, 2, 3⟩ w1 w' := lhear_any w1 g (newL 9) hE 3 1 ⟨by decide, by decide⟩ ⟨by decide, by decide⟩; have HG := Lib.hid hg; clear hnew hE hb1 hg)
    | (go_at_call 12; refine hc1.mono ?_; rintro e w2 ⟨rfl, hL2, hg2⟩; have HC2 := Lib.hid hg2; have hl2 := llevel_any _ _ _ hL2; have hp2 := lparent_any _ _ _ hL2; have hc2 : Calls Try.prog 12 #[.pointer (some ⟨g, 0, none⟩), .agg #[.int .i64 4, .int .i64 0]] w2 fun e w' => e = .returned (.bool true) ∧ LGoes g ⟨9, 1, 4⟩ w2 w' := lhear_any w2 g ⟨9, 2, 3⟩ hL2 4 0 ⟨by decide, by decide⟩ ⟨by decide, by decide⟩; clear hc1 hg2 hL2)
    | (go_at_call 10; (with_reducible refine hl2.mono ?_); rintro e wx ⟨rfl, hwx⟩; subst wx)
    | (go_at_call 11; (with_reducible refine hp2.mono ?_); rintro e wx ⟨rfl, hwx⟩; subst wx)
    | (go_at_call 12; refine hc2.mono ?_; rintro e w3 ⟨rfl, hL3, hg3⟩; have HC3 := Lib.hid hg3; have hl3 := llevel_any _ _ _ hL3; have hp3 := lparent_any _ _ _ hL3; clear hc2 hg3 hL3 hl2 hp2)
    | (go_at_call 10; (with_reducible refine hl3.mono ?_); rintro e wx ⟨rfl, hwx⟩; subst wx)
    | (go_at_call 11; (with_reducible refine hp3.mono ?_); rintro e wx ⟨rfl, hwx⟩; subst wx))
  go_ret
  exact ⟨rfl, HF.out _ _ _ _ HG.out.symm HB1.out HC2.out HC3.out⟩
end Go.Proofs.Ytnhjjgopkfoncaa

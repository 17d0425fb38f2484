/- What the stage's laws ask first: what the document tells. And a node's calls, as the laws meet them. -/
import Derived.Test.YtpcbbpcibmpopaaElF
namespace Go.Proofs.Ytpcbbpcibmpopaa
open Go.RowKit
set_option linter.unusedVariables false
set_option linter.unusedSimpArgs false

section
variable {w : World} {B g b n : Nat} {s s' : St}
/-- What a law knows behind a call: the node goes on, and nothing older than B was changed. -/
def Goes (B g : Nat) (b n : Nat) (s : St) (w w' : World) : Prop := ∃ b', En w' B g b' n s ∧ Chg (part g b) w w' ∧ (b' = b ∨ w.heap.size ≤ b')
theorem hear_at (h : En w B g b n s) (hn : n ≤ 100000) (r x q : Int) (hr : (Lit.int .i64 r).wf = true) (hx : F16 x) (hq : F16 q) {v : Int} (hv : hearV s r x q = v) (hs : hearS s r x q = s') : Calls Try.prog 16 #[.pointer (some ⟨g, 0, none⟩), .int .i64 r, .agg #[.int .u16 x, .int .u16 q]] w fun e w' => e = .returned (.int .i64 v) ∧ Goes B g b (n + 1) s' w w' := by
  have := hear_any w B g b n s h hn r x q hr hx hq
  unfold Heard at this
  rw [hv, hs] at this
  exact this
theorem beat_at (h : En w B g b n s) {v : Bool} (hv : beatB s = v) (hs : beatS s = s') : Calls Try.prog 15 #[.pointer (some ⟨g, 0, none⟩)] w fun e w' => e = .returned (.bool v) ∧ Goes B g b n s' w w' := by
  have := beat_any w B g b n s h
  unfold Beaten at this
  rw [hv, hs] at this
  exact this
theorem mine_at (h : En w B g b n s) {v : Bool} (hv : decide (s.root = s.me) = v) : Calls Try.prog 14 #[.pointer (some ⟨g, 0, none⟩)] w fun e w' => e = .returned (.bool v) ∧ ∃ nq, w' = w.drewN nq := by
  have := mine_any w B g b n s h
  rw [hv] at this
  exact this
end
theorem alive_yes (w : World) : Calls Try.prog 8 #[] w fun e w' => e = .returned (.bool true) ∧ Below w.heap.size w w' := by
  obtain ⟨s0, hs0⟩ : ∃ s0, newS 5 2 0 0 = s0 := ⟨_, rfl⟩
  have hnew := fun W => new_yes W 5 2 0 (by decide)
  obtain ⟨s1, hs1⟩ : ∃ s1, hearS s0 3 0 1 = s1 := ⟨_, rfl⟩
  obtain ⟨s2, hs2⟩ : ∃ s2, beatS s1 = s2 := ⟨_, rfl⟩
  obtain ⟨s3, hs3⟩ : ∃ s3, beatS s2 = s3 := ⟨_, rfl⟩
  have a1 : hearV s0 7 0 1 = 0 := by subst hs0; decide
  have a2 : hearS s0 7 0 1 = s0 := by
    subst hs0
    have e : takeB (newS 5 2 0 0) 7 0 1 = false := by decide
    unfold hearS
    rw [e]
    rfl
  have a3 : hearV s0 3 0 1 = 2 := by subst hs0; decide
  have a4 : s1.root = 3 := by subst hs1 hs0; decide
  have a5 : beatB s1 = false := by subst hs1 hs0; decide
  have a6 : beatB s2 = true := by subst hs2 hs1 hs0; decide
  have a7 : decide (s3.root = s3.me) = true := by subst hs3 hs2 hs1 hs0; decide
  rw [hs0] at hnew
  clear hs0
  go_enter Try.func8, Try.ntmps8
  go_wp2_with (first
    | (go_at_call 9; refine (hnew _).mono ?_; rintro e w1 ⟨g, b, rfl, hE, hb1⟩; have hc1 := hear_at hE (by omega) 7 0 1 (by decide) ⟨by decide, by decide⟩ ⟨by decide, by decide⟩ a1 a2; clear hnew)
    | (go_at_call 16; refine hc1.mono ?_; rintro e w2 ⟨rfl, b2, hE2, hg2, -⟩; have hb2 := Below.chg hb1 hg2 hb1.size (fun k hk => hk.elim (fun e => e ▸ hE.newer.1) (fun e => e ▸ hE.newer.2)); have hc2 := hear_at hE2 (by omega) 3 0 1 (by decide) ⟨by decide, by decide⟩ ⟨by decide, by decide⟩ a3 hs1; clear hc1 hg2 hE)
    | (go_at_call 16; refine hc2.mono ?_; rintro e w3 ⟨rfl, b3, hE3, hg3, -⟩; have hb3 := Below.chg hb2 hg3 hb2.size (fun k hk => hk.elim (fun e => e ▸ hE2.newer.1) (fun e => e ▸ hE2.newer.2)); have hro := root_any _ _ _ _ _ _ hE3; rw [a4] at hro; have hc3 := beat_at hE3 a5 hs2; clear hc2 hg3 hE2)
    | (go_at_call 13; refine hro.mono ?_; rintro e wx ⟨rfl, hwx⟩; subst wx)
    | (go_at_call 15; refine hc3.mono ?_; rintro e w4 ⟨rfl, b4, hE4, hg4, -⟩; have hb4 := Below.chg hb3 hg4 hb3.size (fun k hk => hk.elim (fun e => e ▸ hE3.newer.1) (fun e => e ▸ hE3.newer.2)); have hc4 := beat_at hE4 a6 hs3; clear hc3 hg4)
    | (go_at_call 15; refine hc4.mono ?_; rintro e w5 ⟨rfl, b5, hE5, hg5, -⟩; have hb5 := Below.chg hb4 hg5 hb4.size (fun k hk => hk.elim (fun e => e ▸ hE4.newer.1) (fun e => e ▸ hE4.newer.2)); have hc5 := mine_at hE5 a7; clear hc4 hg5)
    | (go_at_call 14; refine hc5.mono ?_; rintro e w6 ⟨rfl, nq, rfl⟩))
  go_ret
  exact ⟨rfl, below_drewN hb5 nq⟩
end Go.Proofs.Ytpcbbpcibmpopaa

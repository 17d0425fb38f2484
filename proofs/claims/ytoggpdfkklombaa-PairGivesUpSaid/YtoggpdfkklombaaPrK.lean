/- Layer 18: for how many rounds somebody whom nobody answers goes on. -/
import Derived.Test.YtoggpdfkklombaaPrJ
namespace Go.Proofs.Ytoggpdfkklombaa
open Go.RowKit
set_option linter.unusedVariables false
set_option linter.unusedSimpArgs false

def tailG (v : Int) : Int := if v = 0 then 8 else if v = 1 then 5 else 0
/-- How many rounds are left until it gives up. -/
def leftG (p : PS) : Int := if p.w = true then (2 - p.rounds) + tailG p.vain else p.rests + 2 + tailG p.vain
/-- A node that asks the same one, or nobody. -/
structure Giv (me tt : Int) (p : PS) : Prop where
  inv : PInv p
  me : p.me = me
  tt : p.w = true → p.t = tt
theorem tailG_pos (v : Int) : 0 ≤ tailG v := by
  unfold tailG
  split
  · omega
  · split <;> omega
theorem left_pos {p : PS} (h : PInv p) : 1 ≤ leftG p := by
  have h1 := h.rounds
  have h2 := h.rests
  have h3 := tailG_pos p.vain
  unfold leftG
  split <;> omega
theorem left_new (me : Int) : leftG (newP me) = 10 := rfl
/-- What Ask makes of it: it waits, or rests on. -/
theorem ask_left {me tt l : Int} {p : PS} (h : Giv me tt p) (h1 : tt ≠ me) (h2 : 0 ≤ tt ∧ tt ≤ 63) (h3 : 0 ≤ l ∧ l ≤ 1125899906842624) :
    (askB p tt l = true ∧ Giv me tt ⟨p.me, true, p.me, tt, l, p.rounds, p.vain, p.rests⟩ ∧ leftG ⟨p.me, true, p.me, tt, l, p.rounds, p.vain, p.rests⟩ = leftG p) ∨ (askB p tt l = false ∧ (p.w = true ∨ 0 < p.rests)) := by
  have hi := h.inv
  cases hw : p.w with
  | true => exact .inr ⟨askB_waits hw, .inl rfl⟩
  | false =>
    by_cases hr : 0 < p.rests
    · exact .inr ⟨askB_rests hr, .inr hr⟩
    · have hr0 : p.rests = 0 := by have := hi.rests; omega
      have hy : askB p tt l = true := askB_yes hw (by omega) (by rw [h.me]; exact h1) hi.me h2 h3
      refine .inl ⟨hy, ⟨?_, h.me, fun _ => rfl⟩, ?_⟩
      · have := hi.ask tt l
        unfold askP at this
        rw [if_pos hy] at this
        exact this
      · unfold leftG
        rw [if_pos rfl, hw, if_neg (by decide)]
        have := hi.free hw
        show 2 - p.rounds + tailG p.vain = _
        omega
theorem beat_left {me tt : Int} {p : PS} (h : Giv me tt p) (hb : p.w = true ∨ 0 < p.rests) :
    (beatB p = true ∧ beatP p = newP p.me) ∨ (beatB p = false ∧ leftG (beatP p) = leftG p - 1 ∧ Giv me tt (beatP p)) := by
  have hi := h.inv
  have hm := h.me
  have ht := h.tt
  have hbi := hi.beat
  obtain ⟨m, b, f, t, s, ro, va, re⟩ := p
  have h1 := hi.rests
  have h2 := hi.rounds
  have h3 := hi.vain
  have h4 := hi.busy
  dsimp only at hm ht h1 h2 h3 h4 hb
  cases b with
  | false =>
    have hre : 0 < re := by
      rcases hb with e | e
      · cases e
      · exact e
    have hV : beatP ⟨m, false, f, t, s, ro, va, re⟩ = ⟨m, false, f, t, s, ro, va, re - 1⟩ := by
      unfold beatP
      rw [if_pos rfl]
      dsimp only
      rw [if_neg (by omega)]
    refine .inr ⟨rfl, ?_, hbi, by rw [hV]; exact hm, by rw [hV]; exact ht⟩
    rw [hV]
    show re - 1 + 2 + tailG va = re + 2 + tailG va - 1
    omega
  | true =>
    obtain ⟨rfl, -⟩ := h4 rfl
    by_cases hr : ro + 1 < 2
    · have hV : beatP ⟨m, true, f, t, s, ro, va, 0⟩ = ⟨m, true, f, t, s, ro + 1, va, 0⟩ := by unfold beatP; simp [hr]
      refine .inr ⟨by unfold beatB; simp [hr], ?_, hbi, by rw [hV]; exact hm, by rw [hV]; exact ht⟩
      rw [hV]
      show 2 - (ro + 1) + tailG va = 2 - ro + tailG va - 1
      omega
    · obtain rfl : ro = 1 := by omega
      have hvv : va = 0 ∨ va = 1 ∨ va = 2 := by omega
      rcases hvv with rfl | rfl | rfl
      · exact .inr ⟨rfl, rfl, hbi, hm, fun e => by cases e⟩
      · exact .inr ⟨rfl, rfl, hbi, hm, fun e => by cases e⟩
      · exact .inl ⟨rfl, rfl⟩
/-- A word that is none to what was asked, as the law makes it. -/
theorem asked_none {me tt fr wt se : Int} {p : PS} (h : Giv me tt p) (hs : wt = me ∧ fr = tt → se < 0) : p.w = false ∨ p.w = true ∧ askedB p fr wt se = false := by
  cases hw : p.w with
  | false => exact .inl rfl
  | true =>
    refine .inr ⟨rfl, ?_⟩
    have ht := h.tt hw
    have hb := (h.inv.busy hw).2
    unfold askedB
    rw [h.me, ht]
    by_cases e1 : wt = me
    · by_cases e2 : fr = tt
      · have := hs ⟨e1, e2⟩
        have e3 : (se == p.s) = false := by simp; omega
        rw [e3]
        simp
      · have e3 : (fr == tt) = false := by simpa using e2
        rw [e3]
        simp
    · have e3 : (wt == me) = false := by simpa using e1
      rw [e3]
      simp
end Go.Proofs.Ytoggpdfkklombaa

/- A law's own array: what each node told last. -/
import Derived.Test.YtnhjjgopkfoncaaLvD
namespace Go.Proofs.Ytnhjjgopkfoncaa
open Go.RowKit
set_option linter.unusedVariables false
set_option linter.unusedSimpArgs false

def toldZ : List Value := List.replicate 64 (.int .i64 0)
theorem zero_told (w : World) : (zeroValue 43).run Try.prog w = .ok (.agg toldZ.toArray) w := by kernel_rfl
/-- The array tells f. -/
def Ai (wr : World) (b : Nat) (f : Nat → Int) : Prop := ∃ cs : List Value, Holds wr b 43 cs.toArray ∧ cs.length = 64 ∧ ∀ i, i < 64 → cs[i]? = some (.int .i64 (f i))
def upF (f : Nat → Int) (j : Nat) (v : Int) : Nat → Int := fun i => if i = j then v else f i
section
variable {wr w' : World} {b : Nat} {f : Nat → Int}
theorem Ai.new (w : World) : Ai (w.alloc (.cells toldZ.toArray 43)) w.heap.size (fun _ => 0) :=
  ⟨toldZ, Holds.new w _ _, by simp [toldZ], fun i hi => by unfold toldZ; rw [List.getElem?_replicate, if_pos hi]⟩
theorem Ai.chg {S : Nat → Prop} (h : Ai wr b f) (hc : Chg S wr w') (hn : ¬ S b) : Ai w' b f := by
  obtain ⟨cs, a1, a2⟩ := h
  exact ⟨cs, a1.chg hc hn, a2⟩
theorem Ai.more (h : Ai wr b f) (hb : Below wr.heap.size wr w') : Ai w' b f := h.chg (Chg.of_below (fun _ => False) hb) (fun h => h)
theorem Ai.lt (h : Ai wr b f) : b < wr.heap.size := by
  obtain ⟨cs, a1, a2⟩ := h
  exact a1.lt
theorem Ai.cell (h : Ai wr b f) {i : Nat} (hi : i < 64) : wr.cell? ⟨b, i, none⟩ = some (.int .i64 (f i)) := by
  obtain ⟨cs, a1, a2, a3⟩ := h
  rw [a1.cell, List.getElem?_toArray]
  exact a3 i hi
theorem Ai.soft (h : Ai wr b f) (i : Nat) : wr.frozen? ⟨b, i, none⟩ = false := by
  obtain ⟨cs, a1, a2⟩ := h
  exact a1.soft i
theorem Ai.put (h : Ai wr b f) {j : Nat} (hj : j < 64) (v : Int) : Ai (wr.setCell ⟨b, j, none⟩ (.int .i64 v)) b (upF f j v) := by
  obtain ⟨cs, a1, a2, a3⟩ := h
  refine ⟨cs.set j (.int .i64 v), ?_, by simp [a2], fun i hi => ?_⟩
  · have := a1.put j (.int .i64 v)
    rw [List.setIfInBounds_toArray] at this
    exact this
  · unfold upF
    by_cases e : i = j
    · subst e
      rw [List.getElem?_set_self (by omega), if_pos rfl]
    · rw [List.getElem?_set_ne (by omega), if_neg e]
      exact a3 i hi
end
/-- A law's node, and the array. -/
structure Lt (w wr : World) (g xt : Nat) (s : LS) (f : Nat → Int) : Prop where
  one : L1 w wr g s
  arr : Ai wr xt f
  new : w.heap.size ≤ xt
section
variable {w wr w' : World} {g xt : Nat} {s s' : LS} {f : Nat → Int}
theorem Lt.ne (h : Lt w wr g xt s f) : g ≠ xt := by
  obtain ⟨cs, a1, a2⟩ := h.arr
  exact Holds.apart h.one.node a1 (by decide)
theorem Lt.next (h : Lt w wr g xt s f) (hg : LGoes g s' wr w') : Lt w w' g xt s' f := ⟨h.one.next hg, h.arr.chg hg.2 (fun e => h.ne e.symm), h.new⟩
theorem Lt.more (h : Lt w wr g xt s f) (hb : Below wr.heap.size wr w') : Lt w w' g xt s f := ⟨h.one.more hb, h.arr.more hb, h.new⟩
theorem Lt.alloc (h : Lt w wr g xt s f) (o : Obj) : Lt w (wr.alloc o) g xt s f := h.more (below_alloc _ _)
theorem Lt.drewN (h : Lt w wr g xt s f) (n : Nat) : Lt w (wr.drewN n) g xt s f := h.more (below_drewN (Below.refl _ _) n)
theorem Lt.put (h : Lt w wr g xt s f) {j : Nat} (hj : j < 64) (v : Int) : Lt w (wr.setCell ⟨xt, j, none⟩ (.int .i64 v)) g xt s (upF f j v) :=
  ⟨⟨Holds.far h.one.node h.ne _, Below.chg h.one.below (Chg.set (S := fun k => k = xt) wr xt j _ rfl) h.one.below.size (fun k e => by have := h.new; omega), h.one.new⟩, h.arr.put hj v, h.new⟩
end
/-- The level is one more than the parent told last. -/
def LowI (s : LS) (f : Nat → Int) : Prop := ∀ p : Nat, s.parent = p → f p = s.level - 1
theorem low_hear {s : LS} {f : Nat → Int} (hi : LInv s) (hI : LowI s f) (a : Nat) (l : Int) (hl : findB a l = true) : LowI (hearL s a l) (upF f a l) := by
  obtain ⟨⟨-, a1⟩, l0, l1⟩ := (findB_iff _ _).1 hl
  intro p hp
  unfold upF
  by_cases hm : heardB s a l = true
  · have hh : hearL s a l = heedL s a (l + 1) := by unfold hearL; rw [if_pos hm]
    rw [hh] at hp ⊢
    unfold heedL at hp ⊢
    split at hp
    · split at hp
      · exfalso
        unfold newL at hp
        simp only [] at hp
        omega
      · rename_i h1 h2
        rw [if_pos h1, if_neg h2]
        have : p ≠ a := by rintro rfl; exact h2 hp.symm
        rw [if_neg this]
        exact hI p hp
    · rename_i h1
      rw [if_neg h1]
      split at hp
      · rename_i h2
        simp only [] at hp
        have : p = a := by omega
        rw [if_pos this, if_pos h2]
        simp only []
        omega
      · rename_i h2
        rw [if_neg h2]
        have : p ≠ a := by rintro rfl; exact h2 (.inl hp.symm)
        rw [if_neg this]
        exact hI p hp
  · have hh : hearL s a l = s := by unfold hearL; rw [if_neg hm]
    rw [hh] at hp ⊢
    by_cases e : p = a
    · exfalso
      have ha : (a : Int) = s.me := by
        unfold heardB at hm
        rw [hl] at hm
        simpa using hm
      rcases hi.has with ⟨_, h⟩ | ⟨_, _, _, _, h⟩ <;> omega
    · rw [if_neg e]
      exact hI p hp
theorem low_other {s : LS} {a l : Int} (hl : findB a l = false) : hearL s a l = s := by unfold hearL heardB; rw [hl]; rfl
theorem low_me {s : LS} {a l : Int} (hl : a = s.me) : hearL s a l = s := by unfold hearL heardB; simp [hl]
/-- Behind a word of another node that can be. -/
theorem low_word {s : LS} {a l : Int} (hi : LInv s) (hl : findB a l = true) (hm : a ≠ s.me) : (hearL s a l).level ≤ l + 1 ∧ (0 ≤ s.level → s.level < (hearL s a l).level → a = (hearL s a l).parent) := by
  obtain ⟨⟨a0, a1⟩, l0, l1⟩ := (findB_iff _ _).1 hl
  have hh : hearL s a l = heedL s a (l + 1) := by unfold hearL heardB; rw [hl]; simp [hm]
  have hs := hi.has
  rw [hh]
  unfold heedL
  split
  · split
    · unfold newL
      simp only []
      omega
    · constructor
      · omega
      · intros; omega
  · split
    · simp only []
      exact ⟨by omega, fun _ _ => trivial⟩
    · rename_i h2
      constructor
      · by_cases e : l + 1 < s.level
        · exact absurd (.inr (.inr e)) h2
        · omega
      · intros; omega
end Go.Proofs.Ytnhjjgopkfoncaa

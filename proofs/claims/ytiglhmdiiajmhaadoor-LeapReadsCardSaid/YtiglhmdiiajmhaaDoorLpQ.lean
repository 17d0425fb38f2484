/- Package leap, by plain mathematics: what a text tells keeps the rules of a table. -/
import Derived.Test.YtiglhmdiiajmhaaDoorLpP
import Derived.Test.YtiglhmdiiajmhaaDoorLpN
namespace Go.Proofs.YtiglhmdiiajmhaaDoor
open Go.RowKit
set_option linter.unusedVariables false
set_option linter.unusedSimpArgs false

theorem startR_ok {T T' : TB} {ws : List ByteArray} (h : startR T ws = .ok T') : ∃ b c d n, ws = [startB, b, c] ∧ dayOf b = some d ∧ smallOf c = some n ∧ T' = ⟨d, n, T.en, T.lp⟩ := by
  unfold startR at h
  split at h
  · rename_i a b c
    split at h
    · rename_i ha
      subst ha
      split at h
      · rename_i d n hd hn
        simp only [Except.ok.injEq] at h
        exact ⟨b, c, d, n, rfl, hd, hn, h.symm⟩
      · cases h
    · cases h
  · cases h
theorem leapR_ok {T T' : TB} {ws : List ByteArray} (h : leapR T ws = .ok T') : ∃ b c d n, ws = [leapB, b, c] ∧ dayOf b = some d ∧ stepOf c = some n ∧ T.lp.length < 64 ∧ takesB T.st T.lp d = true ∧ T' = ⟨T.st, T.ah, T.en, T.lp ++ [(d, n)]⟩ := by
  unfold leapR at h
  split at h
  · rename_i a b c
    split at h
    · rename_i ha
      subst ha
      split at h
      · rename_i d n hd hn
        split at h
        · cases h
        · rename_i h64
          split at h
          · rename_i ht
            simp only [Except.ok.injEq] at h
            exact ⟨b, c, d, n, rfl, hd, hn, by omega, ht, h.symm⟩
          · cases h
      · cases h
    · cases h
  · cases h
theorem endR_ok {T T' : TB} {ws : List ByteArray} (h : endR T ws = .ok T') : ∃ b d, ws = [endB, b] ∧ dayOf b = some d ∧ T.st < d ∧ takesB T.st T.lp d = true ∧ T' = ⟨T.st, T.ah, d, T.lp⟩ := by
  unfold endR at h
  split at h
  · rename_i a b
    split at h
    · rename_i ha
      subst ha
      split at h
      · rename_i d hd
        split at h
        · rename_i ht
          simp only [Except.ok.injEq] at h
          exact ⟨b, d, rfl, hd, ht.1, ht.2, h.symm⟩
        · cases h
      · cases h
    · cases h
  · cases h
theorem map_ok {ε α β : Type} {x : Except ε α} {f : α → β} {b : β} (h : x.map f = .ok b) : ∃ a, x = .ok a ∧ b = f a := by
  cases x with
  | error e => cases h
  | ok a =>
    refine ⟨a, rfl, ?_⟩
    have : Except.ok (ε := ε) (f a) = .ok b := h
    simpa using this.symm
theorem map_error {ε α β : Type} {x : Except ε α} {f : α → β} {c : ε} (h : x.map f = .error c) : x = .error c := by
  cases x with
  | error e =>
    have : Except.error (α := β) e = .error c := h
    simpa using this
  | ok a => cases h
/-- What holds as the lines up to here were read. -/
structure PInv (s : Nat) (T : TB) : Prop where
  zero : s = 0 → T = TB.zero
  bd : s ≠ 0 → -719162 ≤ T.st ∧ T.st ≤ 2932896 ∧ 0 ≤ T.ah ∧ T.ah ≤ 99
  one : Ones T.lp
  few : T.lp.length ≤ 64
  days : s ≠ 0 → OrdL T.st 2932897 T.lp
  fin : s = 2 → FineR T.st T.ah T.en ∧ OrdL T.st T.en T.lp
theorem pinv_zero : PInv 0 TB.zero := ⟨fun _ => rfl, fun h => absurd rfl h, (by intro e he; cases he), Nat.zero_le _, fun h => absurd rfl h, fun h => absurd h (by decide)⟩
theorem PInv.line {s s' : Nat} {T T' : TB} {ws : List ByteArray} (h : PInv s T) (he : lineR s T ws = .ok (s', T')) : PInv s' T' ∧ s' ≠ 0 := by
  unfold lineR at he
  split at he
  · rename_i h0
    obtain ⟨T1, h1, h2⟩ := map_ok he
    simp only [Prod.mk.injEq] at h2
    obtain ⟨rfl, rfl⟩ := h2
    obtain ⟨b, c, d, n, rfl, hd, hn, rfl⟩ := startR_ok h1
    have hz := h.zero h0
    subst hz
    have b1 := dayOf_bd hd
    have b2 := small_bd hn
    exact ⟨⟨fun h => absurd h (by decide), fun _ => ⟨b1.1, b1.2, b2.1, b2.2⟩, h.one, h.few, fun _ => ord_nil _ _, fun h => absurd h (by decide)⟩, by decide⟩
  · rename_i h0
    split at he
    · rename_i h1
      have b0 := h.bd h0
      have o0 := h.days h0
      split at he
      · obtain ⟨T1, h1, h2⟩ := map_ok he
        simp only [Prod.mk.injEq] at h2
        obtain ⟨rfl, rfl⟩ := h2
        obtain ⟨b, c, d, n, rfl, hd, hn, h64, ht, rfl⟩ := leapR_ok h1
        have b1 := dayOf_bd hd
        refine ⟨⟨fun h => absurd h (by decide), fun _ => b0, ?_, ?_, fun _ => ?_, fun h => absurd h (by decide)⟩, by decide⟩
        · intro e he
          rcases List.mem_append.1 he with h' | h'
          · exact h.one e h'
          · simp only [List.mem_singleton] at h'
            subst h'
            exact step_bd hn
        · dsimp only
          rw [List.length_append]
          simp only [List.length_cons, List.length_nil]
          omega
        · exact (ord_snoc o0 d n).2 ⟨ht, by omega⟩
      · obtain ⟨T1, h1, h2⟩ := map_ok he
        simp only [Prod.mk.injEq] at h2
        obtain ⟨rfl, rfl⟩ := h2
        obtain ⟨b, d, rfl, hd, hlt, ht, rfl⟩ := endR_ok h1
        have b1 := dayOf_bd hd
        have hx := (takes_iff o0 d).1 ht
        exact ⟨⟨fun h => absurd h (by decide), fun _ => b0, h.one, h.few, fun _ => o0, fun _ => ⟨⟨b0.1, b0.2.1, b1.1, b1.2, hlt, b0.2.2.1, b0.2.2.2⟩, fun e he => ⟨(o0.1 e he).1, hx.2 e he⟩, o0.2⟩⟩, by decide⟩
    · cases he
theorem walk_inv : ∀ (ls : List ByteArray) (k s : Nat) (T T' : TB), PInv s T → walkR s T ls k = .ok T' → PInv 2 T'
  | [], k, s, T, T', h, he => by
    unfold walkR at he
    split at he
    · rename_i hs
      subst hs
      simp only [Except.ok.injEq] at he
      subst he
      exact h
    · cases he
  | l :: ls, k, s, T, T', h, he => by
    rw [walkR_cons] at he
    split at he
    · exact walk_inv ls (k + 1) s T T' h he
    · split at he
      · cases he
      · rename_i s' T1 h1
        exact walk_inv ls (k + 1) s' T1 T' (h.line h1).1 he
theorem parse_inv {s : ByteArray} {T : TB} (h : parseR s = .ok T) : FineR T.st T.ah T.en ∧ Ones T.lp ∧ T.lp.length ≤ 64 ∧ OrdL T.st T.en T.lp := by
  unfold parseR at h
  split at h
  · cases h
  · have := walk_inv _ _ _ _ _ pinv_zero h
    obtain ⟨h1, h2⟩ := this.fin rfl
    exact ⟨h1, this.one, this.few, h2⟩
theorem fault_zero {st ah en : Int} {L : List (Int × Int)} (h1 : FineR st ah en) (h2 : Ones L) (h3 : L.length ≤ 64) (h4 : OrdL st en L) : faultT st ah en L = 0 := by
  unfold faultT
  rw [if_neg (not_not_intro h1), if_neg (not_not_intro h2), if_neg (by omega), if_neg (not_not_intro h4)]
/-- An error's number is none of none. -/
theorem line_error {s : Nat} {T : TB} {ws : List ByteArray} {c : Int} (h : lineR s T ws = .error c) : c = 3 ∨ c = 6 ∨ c = 12 := by
  unfold lineR at h
  split at h
  · have h1 := map_error h
    unfold startR at h1
    repeat' split at h1
    all_goals first | (simp only [Except.error.injEq] at h1; exact .inl h1.symm) | cases h1
  · split at h
    · split at h
      · have h1 := map_error h
        unfold leapR at h1
        repeat' split at h1
        all_goals first | (simp only [Except.error.injEq] at h1; first | exact .inl h1.symm | exact .inr (.inl h1.symm) | exact .inr (.inr h1.symm)) | cases h1
      · have h1 := map_error h
        unfold endR at h1
        repeat' split at h1
        all_goals first | (simp only [Except.error.injEq] at h1; first | exact .inl h1.symm | exact .inr (.inl h1.symm) | exact .inr (.inr h1.symm)) | cases h1
    · simp only [Except.error.injEq] at h
      exact .inl h.symm
theorem walk_error : ∀ (ls : List ByteArray) (k s n : Nat) (T : TB) (c : Int), walkR s T ls k = .error (n, c) → c = 3 ∨ c = 6 ∨ c = 12
  | [], k, s, n, T, c, h => by
    unfold walkR at h
    split at h
    · cases h
    · simp only [Except.error.injEq, Prod.mk.injEq] at h
      exact .inl h.2.symm
  | l :: ls, k, s, n, T, c, h => by
    rw [walkR_cons] at h
    split at h
    · exact walk_error ls _ _ _ _ _ h
    · split at h
      · rename_i c' h1
        simp only [Except.error.injEq, Prod.mk.injEq] at h
        obtain ⟨_, rfl⟩ := h
        exact line_error h1
      · exact walk_error ls _ _ _ _ _ h
theorem parse_error {s : ByteArray} {n : Nat} {c : Int} (h : parseR s = .error (n, c)) : ¬ c = 0 := by
  unfold parseR at h
  split at h
  · simp only [Except.error.injEq, Prod.mk.injEq] at h
    omega
  · have := walk_error _ _ _ _ _ _ h
    omega
end Go.Proofs.YtiglhmdiiajmhaaDoor

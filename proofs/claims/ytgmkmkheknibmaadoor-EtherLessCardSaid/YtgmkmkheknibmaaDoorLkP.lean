/- Package links: what Set makes of the links. Plain mathematics, over the program's sets. -/
import Derived.Test.YtgmkmkheknibmaaDoorLkN
import Derived.Test.YtgmkmkheknibmaaDoorLkB
namespace Go.Proofs.YtgmkmkheknibmaaDoor
open Go.RowKit

theorem with_bit {x k : Nat} (hx : x < 18446744073709551616) (hk : k < 64) (on : Bool) (j : Nat) : (withB x k on).testBit j = if j = k then on else x.testBit j := by
  unfold withB
  rcases on with _ | _
  · rw [if_neg (by decide), Nat.testBit_and]
    by_cases hj : j < 64
    · rw [not_bit hj (pow_fit hk), Nat.testBit_two_pow]
      by_cases e : k = j
      · simp [e]
      · simp [e, Ne.symm e]
    · have : x.testBit j = false := Nat.testBit_lt_two_pow (Nat.lt_of_lt_of_le hx (show 2 ^ 64 ≤ 2 ^ j from Nat.pow_le_pow_right (by decide) (by omega)))
      have hne : j ≠ k := by omega
      simp [this, hne]
  · rw [if_pos rfl, Nat.testBit_or, Nat.testBit_two_pow]
    by_cases e : k = j
    · simp [e]
    · simp [e, Ne.symm e]
section
variable {M : List Nat}
def FitM (M : List Nat) : Prop := M.length ≤ 64 ∧ ∀ i, M.getD i 0 < 18446744073709551616
theorem put_len (M : List Nat) (i k : Nat) (on : Bool) : (putM M i k on).length = M.length := List.length_set
theorem set_len (M : List Nat) (i k : Nat) (on : Bool) : (setM M i k on).length = M.length := by simp [setM, put_len]
theorem put_get (M : List Nat) (i k : Nat) (on : Bool) (j : Nat) (hi : i < M.length) : (putM M i k on).getD j 0 = if j = i then withB (M.getD i 0) k on else M.getD j 0 := by
  unfold putM
  by_cases e : j = i
  · subst e
    simp [List.getD, hi]
  · simp [List.getD, e, List.getElem?_set_ne (Ne.symm e)]
theorem put_fit (h : FitM M) {i k : Nat} (hi : i < M.length) (hk : k < 64) (on : Bool) : FitM (putM M i k on) :=
  ⟨by rw [put_len]; exact h.1, fun j => by
    rw [put_get M i k on j hi]
    split
    · exact with_fit (h.2 _) hk on
    · exact h.2 j⟩
theorem put_adj (h : FitM M) {i k : Nat} (hi : i < M.length) (hk : k < 64) (on : Bool) (a b : Nat) : adj (putM M i k on) a b = if a = i ∧ b = k then on else adj M a b := by
  unfold adj
  rw [put_get M i k on a hi]
  by_cases e : a = i
  · subst e
    rw [if_pos rfl, with_bit (h.2 _) hk]
    simp
  · simp [e]
theorem set_adj (h : FitM M) {i k : Nat} (hi : i < M.length) (hk : k < M.length) (on : Bool) (a b : Nat) : adj (setM M i k on) a b = if (a = i ∧ b = k) ∨ (a = k ∧ b = i) then on else adj M a b := by
  have h64 := h.1
  have h1 := put_fit h hi (k := k) (by omega) on
  unfold setM
  rw [put_adj h1 (by rw [put_len]; exact hk) (by omega), put_adj h hi (by omega)]
  by_cases e1 : a = k ∧ b = i <;> by_cases e2 : a = i ∧ b = k <;> simp [e1, e2]
theorem Net.set (hN : Net M) (h : FitM M) {i k : Nat} (hi : i < M.length) (hk : k < M.length) (hne : i ≠ k) (on : Bool) : Net (setM M i k on) := by
  refine ⟨fun a b hab => ?_, fun a b hab => ?_, fun a => ?_⟩
  · rw [set_len]
    rw [set_adj h hi hk] at hab
    split at hab
    · omega
    · exact hN.lt a b hab
  · rw [set_adj h hi hk] at hab ⊢
    by_cases e : (a = i ∧ b = k) ∨ (a = k ∧ b = i)
    · rw [if_pos e] at hab
      rw [if_pos (by omega)]
      exact hab
    · rw [if_neg e] at hab
      rw [if_neg (by omega)]
      exact hN.sym a b hab
  · rw [set_adj h hi hk, if_neg (by omega)]
    exact hN.irr a
theorem adj_zero (n i k : Nat) : adj (List.replicate n 0) i k = false := by
  unfold adj
  by_cases h : i < n <;> simp [List.getD, h]
theorem Net.zero (n : Nat) : Net (List.replicate n 0) := ⟨fun i k h => (by rw [adj_zero] at h; cases h), fun i k h => (by rw [adj_zero] at h; cases h), fun i => adj_zero n i i⟩
/-- What Set makes of the links, of whatever numbers. -/
def afterM (M : List Nat) (i k : Int) (on : Bool) : List Nat := if mayB M.length i k then setM M i.toNat k.toNat on else M
theorem may_spec {n : Nat} {i k : Int} (h : mayB n i k = true) : ∃ a b : Nat, i = a ∧ k = b ∧ a < n ∧ b < n ∧ a ≠ b := by
  unfold mayB at h
  simp only [Bool.and_eq_true, decide_eq_true_eq] at h
  obtain ⟨⟨h1, h2⟩, h3⟩ := h
  obtain ⟨a, rfl, ha⟩ := of_inB h1
  obtain ⟨b, rfl, hb⟩ := of_inB h2
  exact ⟨a, b, rfl, rfl, ha, hb, fun e => h3 (by rw [e])⟩
theorem after_len (M : List Nat) (i k : Int) (on : Bool) : (afterM M i k on).length = M.length := by
  unfold afterM
  split
  · exact set_len ..
  · rfl
theorem Net.after (hN : Net M) (h : FitM M) (i k : Int) (on : Bool) : Net (afterM M i k on) := by
  unfold afterM
  split
  · rename_i hm
    obtain ⟨a, b, rfl, rfl, ha, hb, hne⟩ := may_spec hm
    exact hN.set h ha hb hne on
  · exact hN
end
theorem Lk.fitM {w : World} {B g r : Nat} {M : List Nat} (h : Lk w B g r M) : FitM M := ⟨h.le, h.get_lt⟩
/-- Set, of whatever numbers. -/
theorem set_any (w : World) (B g r : Nat) (M : List Nat) (h : Lk w B g r M) (i k : Int) (on : Bool) : Calls Tryd.prog 14 #[.pointer (some ⟨g, 0, none⟩), .int .i64 i, .int .i64 k, .bool on] w fun e w' =>
    e = .returned (.int .i64 (if mayB M.length i k then 0 else 1)) ∧ Lk w' B g r (afterM M i k on) ∧ Chg (fun b => b = r) w w' :=
  (set_lk w B g r M h i k on).mono fun e w' hd => by
    rcases hd with ⟨h1, rfl, rfl⟩ | ⟨h1, rfl, h2, h3⟩
    · refine ⟨by rw [h1]; rfl, ?_, Chg.refl _ _⟩
      unfold afterM
      rw [h1]
      exact h
    · refine ⟨by rw [h1]; rfl, ?_, h3⟩
      unfold afterM
      rw [h1]
      exact h2
end Go.Proofs.YtgmkmkheknibmaaDoor

/- Package leap: a line's words, a word's day, number, step. -/
import Derived.Test.YtcknllkbeadmlaaDoorLpA
import Derived.Carry
namespace Go.Proofs.YtcknllkbeadmlaaDoor
open Go.RowKit
set_option linter.unusedSimpArgs false
set_option linter.unusedVariables false
/-- What a rune tells of its byte. -/
theorem rune_digit {s : ByteArray} {p : Nat} (h : p < s.size) : (digitB (byt s p) = true ↔ (48 ≤ ((Utf8.decode s p).1 : Int) ∧ ((Utf8.decode s p).1 : Int) ≤ 57)) ∧ (digitB (byt s p) = true → (Utf8.decode s p).2 = 1 ∧ ((Utf8.decode s p).1 : Int) = byt s p) ∧ (Utf8.decode s p).1 ≤ 2147483647 := by
  refine ⟨?_, ?_, decode_le s p⟩
  · by_cases ha : (s[p]'h).toNat < 128
    · rw [decode_ascii s p h ha, digit_iff, byt_at h]
    · have hd := decode_high s p h (by omega)
      rw [digit_iff, byt_at h]
      omega
  · intro hc
    by_cases ha : (s[p]'h).toNat < 128
    · rw [decode_ascii s p h ha, byt_at h]
      exact ⟨rfl, rfl⟩
    · exfalso
      rw [digit_iff, byt_at h] at hc
      omega
/-- The number of what has been read of a word. -/
def SecP (s : ByteArray) (p : Nat) (N : Int) : Prop := p ≤ s.size ∧ ((p = 0 ∧ N = 0) ∨ (p = 1 ∧ digitB (byt s 0) = true ∧ N = byt s 0 - 48) ∨ (p = 2 ∧ digitB (byt s 0) = true ∧ ¬ byt s 0 = 48 ∧ digitB (byt s 1) = true ∧ N = (byt s 0 - 48) * 10 + (byt s 1 - 48)))
theorem secP_bd {s : ByteArray} {p : Nat} {N : Int} (h : SecP s p N) : 0 ≤ N ∧ N ≤ 99 := by
  obtain ⟨_, ⟨_, h⟩ | ⟨_, h0, h⟩ | ⟨_, h0, h1, h2, h⟩⟩ := h
  · omega
  · rw [digit_iff] at h0; omega
  · rw [digit_iff] at h0 h2; omega
theorem secP_end {s : ByteArray} {N : Int} (h : SecP s s.size N) (h0 : ¬ s.size = 0) : smallOf s = some N := by
  obtain ⟨_, ⟨e, _⟩ | ⟨e, k0, h⟩ | ⟨e, k0, k1, k2, h⟩⟩ := h
  · exact absurd e h0
  · unfold smallOf
    rw [if_pos ⟨e, k0⟩, h]
  · unfold smallOf
    rw [if_neg (by omega), if_pos ⟨e, k0, k1, k2⟩, h]
theorem small_long {s : ByteArray} (h : 2 < s.size) : smallOf s = none := by
  unfold smallOf
  rw [if_neg (by omega), if_neg (by omega)]
theorem small_bad {s : ByteArray} {p : Nat} (hp : p < s.size) (hd : ¬ digitB (byt s p) = true) : smallOf s = none := by
  unfold smallOf
  rw [if_neg, if_neg]
  · rintro ⟨e, k0, _, k1⟩
    have : p = 0 ∨ p = 1 := by omega
    rcases this with rfl | rfl
    · exact hd k0
    · exact hd k1
  · rintro ⟨e, k0⟩
    have : p = 0 := by omega
    subst this
    exact hd k0
theorem small_nought {s : ByteArray} (hp : 1 < s.size) (h0 : byt s 0 = 48) : smallOf s = none := by
  unfold smallOf
  rw [if_neg (by omega), if_neg]
  rintro ⟨_, _, k, _⟩
  exact k h0
end Go.Proofs.YtcknllkbeadmlaaDoor

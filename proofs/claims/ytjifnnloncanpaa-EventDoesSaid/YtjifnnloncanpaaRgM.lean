/- Package ring: the arithmetic of going round. -/
import Derived.Test.YtjifnnloncanpaaChg
import Derived.Test.YtjifnnloncanpaaTurn
import Derived.Test.YtjifnnloncanpaaRowGrow
import Derived.Deep.OwnRows
import Derived.Deep.QuietTactic
import Derived.BigQuiet
import Derived.StillTail
import Derived.StillTailTactics
import Derived.Deep.CutBlock
namespace Go.Proofs.Ytjifnnloncanpaa

theorem mod_wrap {a r : Nat} (h : a < r + r) : a % r = if a < r then a else a - r := by
  split
  · exact Nat.mod_eq_of_lt (by assumption)
  · rw [Nat.mod_eq_sub_mod (by omega), Nat.mod_eq_of_lt (by omega)]
theorem mod_ne {f r i j : Nat} (hf : f < r) (hij : i < j) (hj : j < r) : (f + i) % r ≠ (f + j) % r := by
  rw [mod_wrap (by omega), mod_wrap (by omega)]
  split <;> split <;> omega
theorem mod_next {f r i : Nat} : ((f + 1) % r + i) % r = (f + (i + 1)) % r := by
  rw [Nat.add_mod, Nat.mod_mod, ← Nat.add_mod]
  congr 1
  omega
theorem mod_lt' {f r : Nat} (i : Nat) (hr : 1 ≤ r) : (f + i) % r < r := Nat.mod_lt _ hr

section
variable {α : Type}
/-- One more, behind all. -/
theorem ring_push {zs L : List α} {f r : Nat} {x : α} (hf : f < r) (hz : zs.length = r) (hl : L.length < r) (h : ∀ i, i < L.length → zs[(f + i) % r]? = L[i]?) :
    ∀ i, i < (L ++ [x]).length → (zs.set ((f + L.length) % r) x)[(f + i) % r]? = (L ++ [x])[i]? := fun i hi => by
  rw [List.length_append, List.length_singleton] at hi
  by_cases he : i = L.length
  · subst he
    have hm : (f + L.length) % r < zs.length := by rw [hz]; exact Nat.mod_lt _ (by omega)
    simp [hm]
  · have hlt : i < L.length := by omega
    rw [List.getElem?_set_ne (fun e => mod_ne hf hlt hl e.symm), h i hlt, List.getElem?_append_left hlt]
/-- The first one goes. -/
theorem ring_pop {zs L : List α} {f r : Nat} {x z : α} (hf : f < r) (hl : (x :: L).length ≤ r) (h : ∀ i, i < (x :: L).length → zs[(f + i) % r]? = (x :: L)[i]?) :
    zs[f]? = some x ∧ ∀ i, i < L.length → (zs.set f z)[((f + 1) % r + i) % r]? = L[i]? := by
  rw [List.length_cons] at hl
  constructor
  · have := h 0 (by simp)
    rwa [Nat.add_zero, Nat.mod_eq_of_lt hf] at this
  · intro i hi
    rw [mod_next, List.getElem?_set_ne (fun e => mod_ne (f := f) (r := r) (i := 0) (j := i + 1) hf (by omega) (by omega) (by rw [Nat.add_zero, Nat.mod_eq_of_lt hf]; exact e)), h (i + 1) (by simp; omega)]
    simp
end
end Go.Proofs.Ytjifnnloncanpaa

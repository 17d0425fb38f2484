/- A row of sets of the law's own, that is made of two. -/
import Derived.Test.YtgmkmkheknibmaaDoorEtG
import Derived.Test.YtgmkmkheknibmaaDoorEtH
import Derived.Test.YtgmkmkheknibmaaDoorChg
namespace Go.Proofs.YtgmkmkheknibmaaDoor
open Go.RowKit
set_option linter.unusedVariables false

def orZ (a b : Int) : Int := ((a.toNat ||| b.toNat : Nat) : Int)
/-- Behind k of those that are lost besides. -/
def moreOf (zs ms : List Int) : Nat → List Int
  | 0 => zs
  | k + 1 => if k < (moreOf zs ms k).length then (moreOf zs ms k).set k (orZ ((moreOf zs ms k).getD k 0) (ms.getD k 0)) else moreOf zs ms k ++ [ms.getD k 0]
theorem moreOf_len (zs ms : List Int) : ∀ k, (moreOf zs ms k).length = max zs.length k
  | 0 => by simp [moreOf]
  | k + 1 => by
    have := moreOf_len zs ms k
    unfold moreOf
    split
    · rw [List.length_set]
      omega
    · rw [List.length_append, List.length_singleton]
      omega
theorem more_set (zs : List Int) (k : Nat) (b : Int) : MoreLost zs (zs.set k (orZ (zs.getD k 0) b)) := fun i F h => by
  unfold lostB at h ⊢
  rw [List.length_set]
  simp only [Bool.and_eq_true, decide_eq_true_eq] at h ⊢
  refine ⟨h.1, ?_⟩
  by_cases e : k = i
  · subst e
    have h2 := h.2
    have hg : (zs.set k (orZ (zs.getD k 0) b)).getD k 0 = orZ (zs.getD k 0) b := by
      rw [List.getD_eq_getElem?_getD, List.getElem?_set_self h.1]
      rfl
    rw [hg]
    unfold orZ
    rw [Int.toNat_natCast, Nat.testBit_or, h2, Bool.true_or]
  · rw [List.getD_eq_getElem?_getD, List.getElem?_set_ne e, ← List.getD_eq_getElem?_getD]
    exact h.2
theorem more_snoc (zs : List Int) (b : Int) : MoreLost zs (zs ++ [b]) := fun i F h => by
  unfold lostB at h ⊢
  simp only [Bool.and_eq_true, decide_eq_true_eq] at h ⊢
  refine ⟨by rw [List.length_append]; omega, ?_⟩
  rw [List.getD_eq_getElem?_getD, List.getElem?_append_left h.1, ← List.getD_eq_getElem?_getD]
  exact h.2
theorem more_all (zs ms : List Int) : ∀ k, MoreLost zs (moreOf zs ms k)
  | 0 => fun i F h => h
  | k + 1 => fun i F h => by
    have h1 := more_all zs ms k i F h
    unfold moreOf
    split
    · exact more_set _ _ _ i F h1
    · exact more_snoc _ _ i F h1
def U64s (zs : List Int) : Prop := ∀ z ∈ zs, (Lit.int .u64 z).wf = true
theorem u64_wf' {z : Int} (h0 : 0 ≤ z) (h1 : z < 18446744073709551616) : (Lit.int .u64 z).wf = true := WalkArith.wf_u64 (by omega)
theorem u64_at {zs : List Int} (h : U64s zs) (k : Nat) : 0 ≤ zs.getD k 0 ∧ zs.getD k 0 < 18446744073709551616 := by
  by_cases hk : k < zs.length
  · rw [List.getD_eq_getElem?_getD, List.getElem?_eq_getElem hk]
    have := bounds_u64 (h _ (List.getElem_mem hk))
    exact ⟨this.1, by have := this.2; simp; omega⟩
  · rw [List.getD_eq_getElem?_getD, List.getElem?_eq_none (by omega)]
    decide
theorem orZ_fit {a b : Int} (ha : 0 ≤ a ∧ a < 18446744073709551616) (hb : 0 ≤ b ∧ b < 18446744073709551616) : 0 ≤ orZ a b ∧ orZ a b < 18446744073709551616 := by
  unfold orZ
  have := Nat.or_lt_two_pow (n := 64) (x := a.toNat) (y := b.toNat) (by omega) (by omega)
  omega
theorem orZ_bits {a b : Int} (ha : 0 ≤ a ∧ a < 18446744073709551616) (hb : 0 ≤ b ∧ b < 18446744073709551616) : bits .or .u64 a b = orZ a b := by
  have := u64_or_nat a.toNat b.toNat (by omega) (by omega)
  rw [Int.toNat_of_nonneg ha.1, Int.toNat_of_nonneg hb.1] at this
  exact this
theorem more_u64 {zs ms : List Int} (hz : U64s zs) (hm : U64s ms) : ∀ k, U64s (moreOf zs ms k)
  | 0 => hz
  | k + 1 => by
    have h := more_u64 hz hm k
    unfold moreOf
    split
    · intro z hzm
      rcases List.mem_or_eq_of_mem_set hzm with h1 | rfl
      · exact h z h1
      · have := orZ_fit (u64_at h k) (u64_at hm k)
        exact u64_wf' this.1 this.2
    · intro z hzm
      rcases List.mem_append.1 hzm with h1 | h1
      · exact h z h1
      · rw [List.mem_singleton.1 h1]
        exact u64_wf' (u64_at hm k).1 (u64_at hm k).2
/-- The row, behind k of them. -/
structure MoreRun (w2 : World) (zs ms : List Int) (k m : Nat) (v : Value) (W : World) : Prop where
  own : W.ownsRow w2.heap.size 23 1 v m ((moreOf zs ms k).map (.int .u64))
  below : Below w2.heap.size w2 W
theorem u64_parts : ∃ i z, Tryd.prog.info? 23 = some i ∧ i.zero = some z ∧ i.size = 1 ∧ i.bytes = 8 ∧ z.cells.size = 1 := by
  obtain ⟨i, hi, hzz⟩ := Option.map_eq_some_iff.1 u64_info
  simp only [Prod.mk.injEq] at hzz
  exact ⟨i, _, hi, hzz.1, hzz.2.1, hzz.2.2, rfl⟩
end Go.Proofs.YtgmkmkheknibmaaDoor

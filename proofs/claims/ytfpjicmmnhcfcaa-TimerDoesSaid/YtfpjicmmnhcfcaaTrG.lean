/- The program's row and the document's, side by side. -/
import Derived.Test.YtfpjicmmnhcfcaaTrF
import Derived.Test.YtfpjicmmnhcfcaaTmN
namespace Go.Proofs.Ytfpjicmmnhcfcaa
open Go.RowKit

section
variable {w w' : World} {B gx gm : Nat} {v v2 : Value} {L L' : List (Int × Int)} {M M' : List One3} {T T' : Int}
/-- What the program's row does leaves the document's. -/
theorem Rr.beside (hr : Rr w B gm v2 M T) (ht : Tm w B gx v L) (hc : Chg (part gx v) w w') : Rr w' B gm v2 M T := by
  have hr' := hr
  obtain ⟨_, _, A2, c2, rfl, hh2, he2⟩ := hr'
  refine hr.chg hc (ht.apart hh2 (by decide) (by decide)) (fun q hq hp => ?_)
  obtain ⟨_, _, A, c, rfl, hh, he⟩ := ht
  rcases hp with rfl | hp
  · exact hh.own_apart he2 (by decide) hq
  · exact own_own he2 he (by decide) hq hp
/-- What the document's row does leaves the program's. -/
theorem Tm.beside (ht : Tm w B gx v L) (hr : Rr w B gm v2 M T) (hc : Chg (fun k => k = gm) w w') : Tm w' B gx v L := by
  obtain ⟨_, _, A2, c2, rfl, hh2, _⟩ := hr
  exact ht.chg hc (fun k hk e => ht.apart hh2 (by decide) (by decide) (by rw [← e]; exact hk))
end
theorem tied_set {L : List (Int × Int)} {M : List One3} {T : Int} (h : Rel L M T) (h16 : L.length ≤ 16) (t what : Int) : setE what L = rsetE what M ∧ Rel (setL t what L) (rsetM t what M T) (rsetT what M T) := by
  have hd := h.drop what
  have hl := hd.len
  unfold setE rsetE setL rsetM rsetT
  rw [hl]
  by_cases hf : (othersM what M).length < 16
  · simp only [if_pos hf]
    exact ⟨by simp, hd.ins t what⟩
  · simp only [if_neg hf]
    refine ⟨by simp, ?_⟩
    have : dropL what L = L := by
      have h3 : (dropL what L).length ≤ L.length := List.length_filter_le _ _
      exact List.filter_sublist.eq_of_length (by unfold dropL at hl h3; omega)
    rw [this]
    exact h
theorem rsetT_le {what : Int} {M : List One3} {T : Int} : T ≤ rsetT what M T ∧ rsetT what M T ≤ T + 1 := by
  unfold rsetT
  split <;> omega
/-- A copy of the document's list. -/
theorem copy_ones (W : World) (B2 : Nat) (A : Option Addr) (c : Nat) (M : List One3) (h : Ones W B2 A M.length c M) (h16 : M.length ≤ 16) :
    ∃ A' c' W', (Builtin.append_ #[29, 29] 29 #[.slice (some ⟨W.heap.size, 0, none⟩) 0 0, .slice A M.length c]).run Try.prog (W.alloc (.cells #[] 54)) = .ok (.slice A' M.length c') W' ∧ Ones W' W.heap.size A' M.length c' M ∧ Below W.heap.size W W' := by
  obtain ⟨i0, hi, hz0, hz1, hz2⟩ := info_parts one_info
  have hnew : (W.alloc (.cells #[] 54)).ownsRow W.heap.size 54 3 (.slice (some ⟨W.heap.size, 0, none⟩) 0 0) 0 [] := World.ownsRow_made W #[] 0 (Nat.le_refl _) (by simp [maxLen]) rfl
  have hb := below_alloc W (.cells #[] 54)
  rcases own_open h with ⟨e, h0, hx⟩ | ⟨q, cap, cur, e, _, _, _⟩
  · simp only [Value.slice.injEq] at e
    obtain ⟨rfl, _, rfl⟩ := e
    have hM : M = [] := List.eq_nil_of_length_eq_zero h0
    subst hM
    refine ⟨some ⟨W.heap.size, 0, none⟩, 0, _, ?_, hnew, hb⟩
    exact run_append_owned_none (P := Try.prog) _ W.heap.size 29 29 54 i0 3 Try.underlying29 hi _ 0 [] hnew
  · simp only [Value.slice.injEq, true_and] at e
    obtain ⟨rfl, rfl⟩ := e
    obtain ⟨A', c', W', hr, h2, h3, _⟩ := run_append_rowK (P := Try.prog) _ W.heap.size 29 29 54 i0 _ 3 24 Try.underlying29 hi hz0 hz1 hz2 rfl (by decide) _ 0 [] hnew ⟨q, 0, none⟩ M.length c (ones M) h.1 ((h.below hb).cells (g := q) rfl) (ones_one _) (by unfold maxLen; omega) (by omega) (by simp)
    rw [Nat.zero_add] at hr h2
    rw [List.nil_append] at h2
    exact ⟨A', c', W', hr, h2, hb.grown h3 (by simp) (fun k hk => by simp [Value.ownBlock] at hk; omega)⟩
end Go.Proofs.Ytfpjicmmnhcfcaa

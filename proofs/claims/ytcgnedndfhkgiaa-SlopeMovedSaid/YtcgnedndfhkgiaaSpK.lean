/- Slopes of entries that are moved alike. -/
import Derived.Test.YtcgnedndfhkgiaaSpD
namespace Go.Proofs.Ytcgnedndfhkgiaa
open Go.RowKit
set_option linter.unusedVariables false

/-- An entry moved by a Local and an Offset. -/
def shE (l o : Int) (e : Ent) : Ent := (e.1 + l, e.2.1 + o, e.2.2)
theorem pt_sh (l o : Int) (a b : Ent) : ptO (shE l o a) (shE l o b) = ptO a b := by
  unfold ptO shE
  dsimp only
  congr 1 <;> omega
theorem pts_sh (l o : Int) (L : List Ent) : ptsL (L.map (shE l o)) = ptsL L := by
  cases L with
  | nil => rfl
  | cons a L =>
    unfold ptsL
    rw [List.map_map]
    refine List.map_congr_left fun b _ => ?_
    exact pt_sh l o a b
theorem fits_sh {l o : Int} {L : List Ent} (h1 : ∀ e ∈ L, CanE e) (h2 : ∀ e ∈ L, CanE (shE l o e)) : FitsL (L.map (shE l o)) ↔ FitsL L := by
  have hh : ∀ b, ptO (headE (L.map (shE l o))) (shE l o b) = ptO (headE L) b ∨ L = [] := fun b => by
    cases L with
    | nil => exact .inr rfl
    | cons a L => exact .inl (pt_sh l o a b)
  constructor
  · rintro ⟨k1, k2, k3⟩
    rw [List.length_map] at k1 k2
    refine ⟨k1, k2, fun e he => ⟨h1 e he, ?_⟩⟩
    have := (k3 _ (List.mem_map_of_mem he)).2
    rcases hh e with h | h
    · rwa [h] at this
    · subst h; cases he
  · rintro ⟨k1, k2, k3⟩
    refine ⟨by rwa [List.length_map], by rwa [List.length_map], fun e he => ?_⟩
    obtain ⟨b, hb, rfl⟩ := List.mem_map.1 he
    refine ⟨h2 b hb, ?_⟩
    rcases hh b with h | h
    · rw [h]; exact (k3 b hb).2
    · subst h; cases hb
theorem of_sh (d : Int) {l o : Int} {L : List Ent} (h1 : ∀ e ∈ L, CanE e) (h2 : ∀ e ∈ L, CanE (shE l o e)) : ofV d (L.map (shE l o)) = ofV d L := by
  have hf := fits_sh h1 h2
  by_cases hF : FitsL L
  · by_cases h0 : denV (ptsL L) = 0
    · rw [of_flat h0, of_flat (by rw [pts_sh]; exact h0)]
    · rw [of_is hF h0, of_is (hf.2 hF) (by rw [pts_sh]; exact h0), pts_sh]
  · rw [of_not hF, of_not (fun k => hF (hf.1 k))]
end Go.Proofs.Ytcgnedndfhkgiaa

/- The laws' tables: what is there of a list of entries, added one by one; the document's list beside it. -/
import Derived.Test.YtgmeakcfiaopcaaGreatBunG
import Derived.Test.YtgmeakcfiaopcaaGreatGbN
namespace Go.Proofs.YtgmeakcfiaopcaaGreat
open Go.RowKit
set_option linter.unusedVariables false
set_option linter.unusedSimpArgs false

open Classical in
noncomputable def stepL (L : List Ent) (e : Ent) : List Ent := if CanE e ∧ Later L e then pushL L e else L
noncomputable def fillL (L : List Ent) : List Ent := L.foldl stepL []
theorem step_L {L M : List Ent} {e : Ent} {v : Int} (h : Step L e M v) : stepL L e = M := by
  unfold stepL
  rcases h with ⟨hc, rfl, _⟩ | ⟨_, hl, rfl, _⟩ | ⟨hc, hl, rfl, _⟩
  · exact if_neg fun k => hc k.1
  · exact if_neg fun k => hl k.2
  · exact if_pos ⟨hc, hl⟩
theorem fillL_nil : fillL [] = [] := rfl
theorem fillL_snoc (L : List Ent) (e : Ent) : fillL (L ++ [e]) = stepL (fillL L) e := by
  unfold fillL
  rw [List.foldl_append]
  rfl
theorem pushL_mem {L : List Ent} {e x : Ent} (h : x ∈ pushL L e) : x ∈ L ∨ x = e := by
  unfold pushL at h
  split at h
  · rcases List.mem_append.1 h with h | h
    · exact .inl (List.mem_of_mem_tail h)
    · exact .inr (by simpa using h)
  · rcases List.mem_append.1 h with h | h
    · exact .inl h
    · exact .inr (by simpa using h)
/-- What a law's table has: entries that can be, no more than eight. -/
structure Ents8 (L : List Ent) : Prop where
  le : L.length ≤ 8
  can : ∀ e ∈ L, CanE e
theorem ents8_nil : Ents8 [] := ⟨Nat.zero_le _, fun e h => by cases h⟩
theorem Ents8.push {L : List Ent} {e : Ent} (h : Ents8 L) (hc : CanE e) : Ents8 (pushL L e) :=
  ⟨pushL_len h.le e, fun x hx => by
    rcases pushL_mem hx with hx | rfl
    · exact h.can x hx
    · exact hc⟩
theorem Ents8.step {L : List Ent} {e : Ent} (h : Ents8 L) : Ents8 (stepL L e) := by
  unfold stepL
  split
  · rename_i k
    exact h.push k.1
  · exact h
theorem fill8 (L : List Ent) : Ents8 (fillL L) := by
  have key : ∀ (L M : List Ent), Ents8 M → Ents8 (L.foldl stepL M) := fun L => by
    induction L with
    | nil => exact fun M h => h
    | cons x L ih => exact fun M h => ih _ h.step
  exact key L [] ents8_nil
/-- A call answers a table, and the document's list of what it has. -/
def GaveT (w : World) (M : List Ent) (e : Ending) (w' : World) : Prop :=
  ∃ z A c, e = .returned (.tuple #[.pointer (some ⟨z, 0, none⟩), .slice A M.length c]) ∧ TD w z M A c w'
end Go.Proofs.YtgmeakcfiaopcaaGreat

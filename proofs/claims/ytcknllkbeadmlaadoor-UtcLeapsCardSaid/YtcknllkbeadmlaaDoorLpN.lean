/- Package leap: a table's text, by plain mathematics; dates, signs, lines. -/
import Derived.Test.YtcknllkbeadmlaaDoorLpM
import Derived.Test.YtcknllkbeadmlaaDoorPs
import Derived.Test.YtcknllkbeadmlaaDoorTurn
namespace Go.Proofs.YtcknllkbeadmlaaDoor
open Go.RowKit
set_option linter.unusedVariables false
set_option linter.unusedSimpArgs false

theorem dates_from (k : Nat) : k ≤ 3652058 → ∃ y m d, CanD y m d ∧ numV y m d = -719162 + (k : Int) := by
  induction k with
  | zero =>
    intro _
    exact ⟨1, 1, 1, ⟨by decide, by decide, by decide, by decide, by decide, by decide⟩, by decide⟩
  | succ k ih =>
    intro hk
    obtain ⟨y, m, d, hc, hn⟩ := ih (by omega)
    have h9 : ¬ 9999 < (nextD y m d).1 := fun h => by
      have := next_far hc h
      omega
    refine ⟨_, _, _, next_can hc h9, ?_⟩
    rw [next_num hc, hn]
    omega
theorem date_ex {n : Int} (h1 : -719162 ≤ n) (h2 : n ≤ 2932896) : ∃ y m d, CanD y m d ∧ numV y m d = n := by
  obtain ⟨y, m, d, hc, hn⟩ := dates_from (n + 719162).toNat (by omega)
  exact ⟨y, m, d, hc, by omega⟩
/-- The text of a day's date. -/
noncomputable def dateB (n : Int) : ByteArray := open Classical in if h : ∃ p : Int × Int × Int, CanD p.1 p.2.1 p.2.2 ∧ numV p.1 p.2.1 p.2.2 = n then textB (Classical.choose h).1 (Classical.choose h).2.1 (Classical.choose h).2.2 else ⟨#[]⟩
theorem dateB_of {y m d : Int} (h : CanD y m d) : dateB (numV y m d) = textB y m d := by
  have hx : ∃ p : Int × Int × Int, CanD p.1 p.2.1 p.2.2 ∧ numV p.1 p.2.1 p.2.2 = numV y m d := ⟨(y, m, d), h, rfl⟩
  unfold dateB
  rw [dif_pos hx]
  have hs := Classical.choose_spec hx
  obtain ⟨e1, e2, e3⟩ := num_same hs.1 h hs.2
  rw [e1, e2, e3]
theorem dateB_size {n : Int} (h1 : -719162 ≤ n) (h2 : n ≤ 2932896) : (dateB n).size = 10 := by
  obtain ⟨y, m, d, hc, rfl⟩ := date_ex h1 h2
  rw [dateB_of hc, text_size]
theorem dayOf_date {n : Int} (h1 : -719162 ≤ n) (h2 : n ≤ 2932896) : dayOf (dateB n) = some n := by
  obtain ⟨y, m, d, hc, rfl⟩ := date_ex h1 h2
  rw [dateB_of hc, dayOf_yes (text_is hc)]
/-- A leap's sign. -/
def signB (s : Int) : ByteArray := if 0 < s then ⟨#[43, 49]⟩ else ⟨#[45, 49]⟩
theorem signB_size (s : Int) : (signB s).size = 2 := by
  unfold signB
  split <;> rfl
theorem app_list (a b : ByteArray) : (a ++ b).data.toList = a.data.toList ++ b.data.toList := by
  rw [ByteArray.data_append, Array.toList_append]
theorem app_size (a b : ByteArray) : (a ++ b).size = a.size + b.size := ByteArray.size_append ..
end Go.Proofs.YtcknllkbeadmlaaDoor

/- Package leap: the reader, how it lies, how it gives up, how it goes on. -/
import Derived.Test.YtcknllkbeadmlaaDoorLpM
import Derived.Test.YtcknllkbeadmlaaDoorPs
import Derived.Test.YtcknllkbeadmlaaDoorBox
import Derived.Test.YtcknllkbeadmlaaDoorTurn
import Derived.WalkLawsBesides
import Derived.BigQuiet
import Derived.Deep.CutBlock
namespace Go.Proofs.YtcknllkbeadmlaaDoor
open Go.RowKit
set_option linter.unusedSimpArgs false
set_option linter.unusedVariables false

/-- The table at block g, under way or not. -/
structure Tl (w : World) (B g : Nat) (T : TB) : Prop where
  base : B ≤ g
  lies : ∃ A c, Holds w g 90 #[.int .i64 T.st, .int .i64 T.ah, .int .i64 T.en, .slice A T.lp.length c] ∧ w.ownsRow B 63 2 (.slice A T.lp.length c) T.lp.length (prs T.lp)
section
variable {w w' : World} {B g : Nat} {L ws : List ByteArray} {k : Nat} {T : TB}
theorem Tl.below (h : Tl w B g T) (hb : Below w.heap.size w w') : Tl w' B g T := by
  obtain ⟨hB, A, c, h1, h2⟩ := h
  exact ⟨hB, A, c, h1.below hb h1.lt, own_keepK h2 hb⟩
/-- A table isn't touched where another object's block alone was. -/
theorem Tl.chg {q : Nat} {t : TypeId} {cs : Array Value} (h : Tl w B g T) (hq : Holds w q t cs) (h1 : t ≠ 90) (h2 : t ≠ 63) (hc : Chg (fun k => k = q) w w') : Tl w' B g T := by
  obtain ⟨hB, A, c, hH, hO⟩ := h
  refine ⟨hB, A, c, hH.chg hc (fun e => hH.apart hq (Ne.symm h1) e), own_chg hO hc (fun x hx e => hq.own_apart hO (Ne.symm h2) (by rw [← e]; exact hx))⟩
theorem Tl.lt (h : Tl w B g T) : g < w.heap.size := by
  obtain ⟨_, A, c, h1, _⟩ := h
  exact h1.lt
end
/-- The library's variable that is read. -/
def Mt (w : World) : Prop := ∃ m, w.cell? ⟨1, 0, none⟩ = some (.int .i64 m)
theorem Mt.below {w w' : World} (h : Mt w) (hb : Below w.heap.size w w') : Mt w' := by
  obtain ⟨m, h2⟩ := h
  exact ⟨m, (hb.cell (p := ⟨1, 0, none⟩) (block_lt h2)).trans h2⟩
theorem size_set (w : World) (a : Addr) (v : Value) : (w.setCell a v).heap.size = w.heap.size := by simp [World.setCell]
theorem skip_yes {s : ByteArray} (h : skipB s = true) : s.size = 0 ∨ (¬ s.size = 0 ∧ byt s 0 = 35) := by
  unfold skipB at h
  by_cases h0 : s.size = 0
  · exact .inl h0
  · simp [h0] at h
    exact .inr ⟨h0, h⟩
theorem skip_no {s : ByteArray} (h : skipB s = false) : ¬ s.size = 0 ∧ ¬ byt s 0 = 35 := by
  unfold skipB at h
  simpa using h
theorem run_byte' (t : ByteArray) (h : ¬ t.size = 0) (W : World) : (Instr.index 9 (.string t) (.int .i64 0)).run Tryd.prog W = .ok (.int .u8 (byt t 0)) W := run_byte t 0 (by omega) W
theorem text_eq (a b : ByteArray) : (a.toList == b.toList) = decide (a = b) := by
  by_cases h : a = b
  · rw [h, decide_eq_true rfl]
    exact beq_self_eq_true _
  · rw [decide_eq_false h]
    refine beq_eq_false_iff_ne.2 fun e => h (ByteArray.ext (Array.toList_inj.1 ?_))
    rwa [Lib.toList_data, Lib.toList_data] at e
theorem empty_iff {s : ByteArray} : s = ⟨#[]⟩ ↔ s.size = 0 := by
  constructor
  · rintro rfl
    rfl
  · intro h
    have h0 : s.data.toList = [] := List.eq_nil_of_length_eq_zero (by rw [size_list]; exact h)
    exact arr_of h0
theorem empty_yes {s : ByteArray} (h : s.size = 0) : s.toList.isEmpty = true := by
  rw [empty_iff.2 h, Lib.toList_data]
  rfl
theorem empty_no {s : ByteArray} (h : ¬ s.size = 0) : s.toList.isEmpty = false := by
  rw [List.isEmpty_eq_false_iff]
  intro e
  rw [Lib.toList_data] at e
  exact h (empty_iff.1 (arr_of e))
theorem drop_one {L : List ByteArray} {p : Nat} {s : ByteArray} (h : L[p]? = some s) : L.drop p = s :: L.drop (p + 1) := by
  obtain ⟨hlt, e⟩ := List.getElem?_eq_some_iff.1 h
  rw [List.drop_eq_getElem_cons hlt, e]
end Go.Proofs.YtcknllkbeadmlaaDoor

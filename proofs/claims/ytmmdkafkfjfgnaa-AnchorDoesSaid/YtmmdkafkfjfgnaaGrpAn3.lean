/- Texts of this seat, one behind the other. -/
import Derived.Test.YtmmdkafkfjfgnaaGrpAn2
import Derived.Lib.Split
import Derived.Lib.IndexLaws
import Derived.Lib.CountLaws
import Derived.Test.YtmmdkafkfjfgnaaGrpAn1
import Derived.Deep.Slices
import Derived.Deep.Fields
import Derived.ChangeMaps5
import Derived.WalkLawsBesides
import Derived.BigQuiet
import Derived.Deep.CutBlock
import Derived.Carry
import Derived.RangeFuncNested
import Derived.RangeFuncBound
import Derived.RangeFuncCalls
import Derived.RangeFuncLeaves
import Derived.RangeFuncWrites
import Derived.Shelf.Abstract
import Derived.OwnWalkIn
import Derived.TacticsInMore
import Derived.LoopNIn
import Derived.LoopIn
import Derived.Lib.SlFresh
import Derived.Laws.StructEq
/- Package civil, mathematics of texts: a date's text is its own, and no other; later dates have greater texts. -/
namespace Go.Proofs.Ytmmdkafkfjfgnaa
set_option linter.unusedSimpArgs false
set_option linter.unusedVariables false

theorem list_len (s : ByteArray) : s.data.toList.length = s.size := by rw [Array.length_toList]; rfl
theorem dg_nat (u j : Nat) : (Lib.dg u j).toNat = 48 + u / 10 ^ j % 10 := by
  unfold Lib.dg
  rw [UInt8.toNat_ofNat']
  omega
/-- A date's text, byte by byte. -/
theorem text_list (y m d : Int) : (textB y m d).data.toList = [Lib.dg y.toNat 3, Lib.dg y.toNat 2, Lib.dg y.toNat 1, Lib.dg y.toNat 0, 45, Lib.dg m.toNat 1, Lib.dg m.toNat 0, 45, Lib.dg d.toNat 1, Lib.dg d.toNat 0] := by
  unfold textB digB
  simp only [ByteArray.data_append, Array.toList_append]
  rfl
theorem text_size (y m d : Int) : (textB y m d).size = 10 := by
  rw [← list_len, text_list]
  rfl
theorem text_byt (y m d : Int) (j : Nat) : byt (textB y m d) j = (([Lib.dg y.toNat 3, Lib.dg y.toNat 2, Lib.dg y.toNat 1, Lib.dg y.toNat 0, 45, Lib.dg m.toNat 1, Lib.dg m.toNat 0, 45, Lib.dg d.toNat 1, Lib.dg d.toNat 0].getD j 0).toNat : Int) := by
  unfold byt
  rw [text_list]
theorem text_is {y m d : Int} (h : CanD y m d) : IsDate (textB y m d) y m d := by
  have b0 : byt (textB y m d) 0 = 48 + (y.toNat / 10 ^ 3 % 10 : Nat) := by rw [text_byt]; show ((Lib.dg y.toNat 3).toNat : Int) = _; rw [dg_nat]; omega
  have b1 : byt (textB y m d) 1 = 48 + (y.toNat / 10 ^ 2 % 10 : Nat) := by rw [text_byt]; show ((Lib.dg y.toNat 2).toNat : Int) = _; rw [dg_nat]; omega
  have b2 : byt (textB y m d) 2 = 48 + (y.toNat / 10 ^ 1 % 10 : Nat) := by rw [text_byt]; show ((Lib.dg y.toNat 1).toNat : Int) = _; rw [dg_nat]; omega
  have b3 : byt (textB y m d) 3 = 48 + (y.toNat / 10 ^ 0 % 10 : Nat) := by rw [text_byt]; show ((Lib.dg y.toNat 0).toNat : Int) = _; rw [dg_nat]; omega
  have b4 : byt (textB y m d) 4 = 45 := by rw [text_byt]; rfl
  have b5 : byt (textB y m d) 5 = 48 + (m.toNat / 10 ^ 1 % 10 : Nat) := by rw [text_byt]; show ((Lib.dg m.toNat 1).toNat : Int) = _; rw [dg_nat]; omega
  have b6 : byt (textB y m d) 6 = 48 + (m.toNat / 10 ^ 0 % 10 : Nat) := by rw [text_byt]; show ((Lib.dg m.toNat 0).toNat : Int) = _; rw [dg_nat]; omega
  have b7 : byt (textB y m d) 7 = 45 := by rw [text_byt]; rfl
  have b8 : byt (textB y m d) 8 = 48 + (d.toNat / 10 ^ 1 % 10 : Nat) := by rw [text_byt]; show ((Lib.dg d.toNat 1).toNat : Int) = _; rw [dg_nat]; omega
  have b9 : byt (textB y m d) 9 = 48 + (d.toNat / 10 ^ 0 % 10 : Nat) := by rw [text_byt]; show ((Lib.dg d.toNat 0).toNat : Int) = _; rw [dg_nat]; omega
  have h1 := h.y1
  have h2 := h.y2
  have h3 := h.m1
  have h4 := h.m2
  have h5 := h.d1
  have h6 := h.d2
  have h7 := (days_bd y m).2
  refine ⟨text_size y m d, fun j hj => ?_, ?_, ?_, ?_, h⟩
  · have hc : j = 0 ∨ j = 1 ∨ j = 2 ∨ j = 3 ∨ j = 4 ∨ j = 5 ∨ j = 6 ∨ j = 7 ∨ j = 8 ∨ j = 9 := by omega
    rcases hc with rfl | rfl | rfl | rfl | rfl | rfl | rfl | rfl | rfl | rfl <;> unfold confB
    · rw [if_neg (by decide), b0]; omega
    · rw [if_neg (by decide), b1]; omega
    · rw [if_neg (by decide), b2]; omega
    · rw [if_neg (by decide), b3]; omega
    · rw [if_pos (by decide), b4]
    · rw [if_neg (by decide), b5]; omega
    · rw [if_neg (by decide), b6]; omega
    · rw [if_pos (by decide), b7]
    · rw [if_neg (by decide), b8]; omega
    · rw [if_neg (by decide), b9]; omega
  · show y = (((0 * 10 + (byt (textB y m d) 0 - 48)) * 10 + (byt (textB y m d) 1 - 48)) * 10 + (byt (textB y m d) 2 - 48)) * 10 + (byt (textB y m d) 3 - 48)
    rw [b0, b1, b2, b3]
    omega
  · show m = (0 * 10 + (byt (textB y m d) 5 - 48)) * 10 + (byt (textB y m d) 6 - 48)
    rw [b5, b6]
    omega
  · show d = (0 * 10 + (byt (textB y m d) 8 - 48)) * 10 + (byt (textB y m d) 9 - 48)
    rw [b8, b9]
    omega
theorem byte_eq {b c : UInt8} (h : (b.toNat : Int) = (c.toNat : Int)) : b = c := UInt8.toNat_inj.1 (by omega)
theorem is_text {s : ByteArray} {y m d : Int} (h : IsDate s y m d) : textB y m d = s := by
  have hs : ∀ j, j < 10 → ∃ b, s.data.toList[j]? = some b ∧ byt s j = (b.toNat : Int) := fun j hj => by
    have hl : j < s.data.toList.length := by rw [list_len, h.ten]; exact hj
    refine ⟨s.data.toList[j], List.getElem?_eq_getElem hl, ?_⟩
    unfold byt
    rw [List.getD_eq_getElem?_getD, List.getElem?_eq_getElem hl]
    rfl
  have hc : ∀ j, j < 10 → j ≠ 4 → j ≠ 7 → 48 ≤ byt s j ∧ byt s j ≤ 57 := fun j h1 h2 h3 => by
    have := h.conf j h1
    unfold confB at this
    rw [if_neg (by omega)] at this
    exact this
  have h4 : byt s 4 = 45 := by have := h.conf 4 (by decide); unfold confB at this; rwa [if_pos (by decide)] at this
  have h7 : byt s 7 = 45 := by have := h.conf 7 (by decide); unfold confB at this; rwa [if_pos (by decide)] at this
  have hy : y = (((0 * 10 + (byt s 0 - 48)) * 10 + (byt s 1 - 48)) * 10 + (byt s 2 - 48)) * 10 + (byt s 3 - 48) := h.y_eq
  have hm : m = (0 * 10 + (byt s 5 - 48)) * 10 + (byt s 6 - 48) := h.m_eq
  have hd : d = (0 * 10 + (byt s 8 - 48)) * 10 + (byt s 9 - 48) := h.d_eq
  have c0 := hc 0 (by decide) (by decide) (by decide)
  have c1 := hc 1 (by decide) (by decide) (by decide)
  have c2 := hc 2 (by decide) (by decide) (by decide)
  have c3 := hc 3 (by decide) (by decide) (by decide)
  have c5 := hc 5 (by decide) (by decide) (by decide)
  have c6 := hc 6 (by decide) (by decide) (by decide)
  have c8 := hc 8 (by decide) (by decide) (by decide)
  have c9 := hc 9 (by decide) (by decide) (by decide)
  have hlist : (textB y m d).data.toList = s.data.toList := by
    refine List.ext_getElem? fun j => ?_
    by_cases hj : j < 10
    · obtain ⟨b, e1, e2⟩ := hs j hj
      rw [e1, text_list]
      have hcs : j = 0 ∨ j = 1 ∨ j = 2 ∨ j = 3 ∨ j = 4 ∨ j = 5 ∨ j = 6 ∨ j = 7 ∨ j = 8 ∨ j = 9 := by omega
      rcases hcs with rfl | rfl | rfl | rfl | rfl | rfl | rfl | rfl | rfl | rfl
      · refine congrArg some (byte_eq (?_ : ((Lib.dg y.toNat 3).toNat : Int) = _)); rw [dg_nat, ← e2]; omega
      · refine congrArg some (byte_eq (?_ : ((Lib.dg y.toNat 2).toNat : Int) = _)); rw [dg_nat, ← e2]; omega
      · refine congrArg some (byte_eq (?_ : ((Lib.dg y.toNat 1).toNat : Int) = _)); rw [dg_nat, ← e2]; omega
      · refine congrArg some (byte_eq (?_ : ((Lib.dg y.toNat 0).toNat : Int) = _)); rw [dg_nat, ← e2]; omega
      · refine congrArg some (byte_eq (?_ : ((45 : UInt8).toNat : Int) = _)); rw [← e2, h4]; rfl
      · refine congrArg some (byte_eq (?_ : ((Lib.dg m.toNat 1).toNat : Int) = _)); rw [dg_nat, ← e2]; omega
      · refine congrArg some (byte_eq (?_ : ((Lib.dg m.toNat 0).toNat : Int) = _)); rw [dg_nat, ← e2]; omega
      · refine congrArg some (byte_eq (?_ : ((45 : UInt8).toNat : Int) = _)); rw [← e2, h7]; rfl
      · refine congrArg some (byte_eq (?_ : ((Lib.dg d.toNat 1).toNat : Int) = _)); rw [dg_nat, ← e2]; omega
      · refine congrArg some (byte_eq (?_ : ((Lib.dg d.toNat 0).toNat : Int) = _)); rw [dg_nat, ← e2]; omega
    · rw [List.getElem?_eq_none (by rw [text_list]; simpa using hj), List.getElem?_eq_none (by rw [list_len, h.ten]; omega)]
  exact ByteArray.ext (Array.toList_inj.1 hlist)
theorem text_one {y m d y' m' d' : Int} (h : CanD y m d) (h' : CanD y' m' d') (e : textB y m d = textB y' m' d') : y = y' ∧ m = m' ∧ d = d' := by
  have k := text_is h
  have k' := text_is h'
  rw [← e] at k'
  exact ⟨k.y_eq.trans k'.y_eq.symm, k.m_eq.trans k'.m_eq.symm, k.d_eq.trans k'.d_eq.symm⟩
theorem less_byte (a b : Nat) (j : Nat) (X Y : List UInt8) (Z : Prop) (h : Op.bytesLess X Y = true ↔ Z) :
    Op.bytesLess (Lib.dg a j :: X) (Lib.dg b j :: Y) = true ↔ a / 10 ^ j % 10 < b / 10 ^ j % 10 ∨ (a / 10 ^ j % 10 = b / 10 ^ j % 10 ∧ Z) := by
  have e : Op.bytesLess (Lib.dg a j :: X) (Lib.dg b j :: Y) = (decide (Lib.dg a j < Lib.dg b j) || (Lib.dg a j == Lib.dg b j && Op.bytesLess X Y)) := rfl
  rw [e, Bool.or_eq_true, Bool.and_eq_true, h, decide_eq_true_iff, beq_iff_eq, UInt8.lt_iff_toNat_lt, ← UInt8.toNat_inj, dg_nat, dg_nat]
  constructor
  · rintro (g | ⟨g, k⟩)
    · exact .inl (by omega)
    · exact .inr ⟨by omega, k⟩
  · rintro (g | ⟨g, k⟩)
    · exact .inl (by omega)
    · exact .inr ⟨by omega, k⟩
theorem less_same (c : UInt8) (X Y : List UInt8) : Op.bytesLess (c :: X) (c :: Y) = Op.bytesLess X Y := by
  have e : Op.bytesLess (c :: X) (c :: Y) = (decide (c < c) || (c == c && Op.bytesLess X Y)) := rfl
  rw [e]
  simp
theorem lex_step {p q r t : Nat} {Z : Prop} (h1 : r < 10) (h2 : t < 10) : (p < q ∨ (p = q ∧ (r < t ∨ (r = t ∧ Z)))) ↔ (10 * p + r < 10 * q + t ∨ (10 * p + r = 10 * q + t ∧ Z)) := by
  by_cases hz : Z <;> simp only [hz, and_true, and_false, or_false] <;> omega
theorem lex_four {a b : Nat} (ha : a < 10000) (hb : b < 10000) (Z : Prop) : (a / 10 ^ 3 % 10 < b / 10 ^ 3 % 10 ∨ (a / 10 ^ 3 % 10 = b / 10 ^ 3 % 10 ∧ (a / 10 ^ 2 % 10 < b / 10 ^ 2 % 10 ∨ (a / 10 ^ 2 % 10 = b / 10 ^ 2 % 10 ∧ (a / 10 ^ 1 % 10 < b / 10 ^ 1 % 10 ∨ (a / 10 ^ 1 % 10 = b / 10 ^ 1 % 10 ∧ (a / 10 ^ 0 % 10 < b / 10 ^ 0 % 10 ∨ (a / 10 ^ 0 % 10 = b / 10 ^ 0 % 10 ∧ Z)))))))) ↔ (a < b ∨ (a = b ∧ Z)) := by
  have f : ∀ x : Nat, x < 10000 → 10 * (x / 10 ^ 3 % 10) + x / 10 ^ 2 % 10 = x / 100 := fun x hx => by omega
  have g : ∀ x : Nat, x < 10000 → 10 * (x / 100) + x / 10 ^ 1 % 10 = x / 10 := fun x hx => by omega
  have k : ∀ x : Nat, x < 10000 → 10 * (x / 10) + x / 10 ^ 0 % 10 = x := fun x hx => by omega
  rw [lex_step (Nat.mod_lt _ (by decide)) (Nat.mod_lt _ (by decide)), f a ha, f b hb, lex_step (Nat.mod_lt _ (by decide)) (Nat.mod_lt _ (by decide)), g a ha, g b hb, lex_step (Nat.mod_lt _ (by decide)) (Nat.mod_lt _ (by decide)), k a ha, k b hb]
theorem less_text {y m d y' m' d' : Int} (h : CanD y m d) (h' : CanD y' m' d') : Op.bytesLess (textB y m d).data.toList (textB y' m' d').data.toList = laterD y' m' d' y m d := by
  have k1 := h.y1
  have k2 := h.y2
  have k3 := h.m1
  have k4 := h.m2
  have k5 := h.d1
  have k6 := h.d2
  have k7 := (days_bd y m).2
  have l1 := h'.y1
  have l2 := h'.y2
  have l3 := h'.m1
  have l4 := h'.m2
  have l5 := h'.d1
  have l6 := h'.d2
  have l7 := (days_bd y' m').2
  rw [text_list, text_list, Bool.eq_iff_iff]
  have z : Op.bytesLess [] [] = true ↔ False := by simp [Op.bytesLess]
  have d0 := less_byte d.toNat d'.toNat 0 [] [] _ z
  have d1 := less_byte d.toNat d'.toNat 1 _ _ _ d0
  rw [← less_same 45] at d1
  have m0 := less_byte m.toNat m'.toNat 0 _ _ _ d1
  have m1 := less_byte m.toNat m'.toNat 1 _ _ _ m0
  rw [← less_same 45] at m1
  have y0 := less_byte y.toNat y'.toNat 0 _ _ _ m1
  have y1 := less_byte y.toNat y'.toNat 1 _ _ _ y0
  have y2 := less_byte y.toNat y'.toNat 2 _ _ _ y1
  have y3 := less_byte y.toNat y'.toNat 3 _ _ _ y2
  rw [y3]
  have ed : (d.toNat / 10 ^ 1 % 10 < d'.toNat / 10 ^ 1 % 10 ∨ (d.toNat / 10 ^ 1 % 10 = d'.toNat / 10 ^ 1 % 10 ∧ (d.toNat / 10 ^ 0 % 10 < d'.toNat / 10 ^ 0 % 10 ∨ (d.toNat / 10 ^ 0 % 10 = d'.toNat / 10 ^ 0 % 10 ∧ False)))) ↔ d < d' := by simp only [and_false, or_false]; omega
  rw [ed]
  have em : ∀ Z : Prop, (m.toNat / 10 ^ 1 % 10 < m'.toNat / 10 ^ 1 % 10 ∨ (m.toNat / 10 ^ 1 % 10 = m'.toNat / 10 ^ 1 % 10 ∧ (m.toNat / 10 ^ 0 % 10 < m'.toNat / 10 ^ 0 % 10 ∨ (m.toNat / 10 ^ 0 % 10 = m'.toNat / 10 ^ 0 % 10 ∧ Z)))) ↔ (m < m' ∨ (m = m' ∧ Z)) := fun Z => by
    by_cases hz : Z <;> simp only [hz, and_true, and_false, or_false] <;> omega
  rw [em]
  rw [lex_four (by omega) (by omega)]
  unfold laterD
  simp only [Bool.or_eq_true, Bool.and_eq_true, decide_eq_true_iff]
  omega
end Go.Proofs.Ytmmdkafkfjfgnaa

/- Package leap, by plain mathematics: the pieces of a text, what a line tells, what a text tells. -/
namespace Go.Proofs.Ytmmdkafkfjfgnaa
open Go.RowKit
set_option linter.unusedSimpArgs false
set_option linter.unusedVariables false

/-- What stands between a byte, ahead of which something has been read. -/
def piecesG (c : UInt8) : List UInt8 → List UInt8 → List (List UInt8)
  | acc, [] => [acc]
  | acc, x :: l => if x = c then acc :: piecesG c [] l else piecesG c (acc ++ [x]) l
/-- A text's pieces. -/
def pcs (c : UInt8) (s : ByteArray) : List ByteArray := (piecesG c [] s.data.toList).map fun l => ⟨l.toArray⟩
theorem piecesG_len (c : UInt8) : ∀ (acc l : List UInt8), 1 ≤ (piecesG c acc l).length ∧ (piecesG c acc l).length ≤ l.length + 1
  | acc, [] => ⟨Nat.le_refl _, Nat.le_refl _⟩
  | acc, x :: l => by
    unfold piecesG
    have h1 := piecesG_len c [] l
    have h2 := piecesG_len c (acc ++ [x]) l
    split
    · simp only [List.length_cons]; omega
    · simp only [List.length_cons]; omega
theorem piecesG_size (c : UInt8) : ∀ (acc l : List UInt8), ∀ p ∈ piecesG c acc l, p.length ≤ acc.length + l.length
  | acc, [], p, hp => by simp [piecesG] at hp; subst hp; simp
  | acc, x :: l, p, hp => by
    unfold piecesG at hp
    split at hp
    · rcases List.mem_cons.1 hp with rfl | hp
      · omega
      · have := piecesG_size c [] l p hp
        simp only [List.length_cons, List.length_nil] at this ⊢
        omega
    · have := piecesG_size c (acc ++ [x]) l p hp
      simp only [List.length_append, List.length_cons, List.length_nil] at this ⊢
      omega
theorem size_list (s : ByteArray) : s.data.toList.length = s.size := by rw [Array.length_toList]; rfl
theorem pcs_len (c : UInt8) (s : ByteArray) : 1 ≤ (pcs c s).length ∧ (pcs c s).length ≤ s.size + 1 := by
  have := piecesG_len c [] s.data.toList
  unfold pcs
  rw [List.length_map]
  rwa [size_list] at this
theorem pcs_size (c : UInt8) (s : ByteArray) : ∀ p ∈ pcs c s, p.size ≤ s.size := by
  intro p hp
  unfold pcs at hp
  obtain ⟨l, hl, rfl⟩ := List.mem_map.1 hp
  have := piecesG_size c [] _ l hl
  rw [size_list, List.length_nil, Nat.zero_add] at this
  show l.toArray.size ≤ s.size
  rw [List.size_toArray]
  exact this
/-- No such byte ahead of place i, and one there. -/
theorem piecesG_hit (c : UInt8) : ∀ (i : Nat) (acc l : List UInt8), l[i]? = some c → (∀ k, k < i → l[k]? ≠ some c) → piecesG c acc l = (acc ++ l.take i) :: piecesG c [] (l.drop (i + 1))
  | _, _, [], h, _ => by simp at h
  | 0, acc, x :: l, h, _ => by
    simp only [List.getElem?_cons_zero, Option.some.injEq] at h
    subst h
    simp [piecesG]
  | i + 1, acc, x :: l, h, hk => by
    have hx : x ≠ c := fun e => hk 0 (by omega) (by simp [e])
    have := piecesG_hit c i (acc ++ [x]) l (by simpa using h) (fun k hlt => by simpa using hk (k + 1) (by omega))
    rw [piecesG, if_neg hx, this, List.take_succ_cons, List.drop_succ_cons, List.append_assoc]
    rfl
theorem piecesG_none (c : UInt8) : ∀ (acc l : List UInt8), (∀ k : Nat, l[k]? ≠ some c) → piecesG c acc l = [acc ++ l]
  | acc, [], _ => by simp [piecesG]
  | acc, x :: l, hk => by
    have hx : x ≠ c := fun e => hk 0 (by simp [e])
    have := piecesG_none c (acc ++ [x]) l (fun k => by simpa using hk (k + 1))
    rw [piecesG, if_neg hx, this, List.append_assoc]
    rfl

theorem arr_of {s : ByteArray} {l : List UInt8} (h : s.data.toList = l) : s = ⟨l.toArray⟩ := ByteArray.ext (Array.toList_inj.1 (by rw [h]))
theorem split_pcs (c : UInt8) : ∀ (n : Nat) (s : ByteArray), s.size ≤ n → Lib.splitB ⟨#[c]⟩ 0 (Lib.countB s ⟨#[c]⟩) s = pcs c s := by
  intro n
  induction n with
  | zero =>
    intro s hs
    have h0 : s.data.toList = [] := List.eq_nil_of_length_eq_zero (by rw [size_list]; omega)
    have hi : Lib.indexB s ⟨#[c]⟩ = -1 := by unfold Lib.indexB; rw [h0]; rfl
    rw [Lib.countB_miss _ _ hi, Lib.splitB_zero]
    unfold pcs
    rw [h0]
    simp only [piecesG, List.map_cons, List.map_nil]
    rw [arr_of h0]
  | succ n ih =>
    intro s hs
    have hone : Lib.indexB s ⟨#[c]⟩ = Lib.indexByte s.data.toList c := Lib.index_one _ _
    rcases Lib.indexB_cases s ⟨#[c]⟩ with hi | ⟨i, hi, hr⟩
    · rw [Lib.countB_miss _ _ hi, Lib.splitB_zero]
      unfold pcs
      rw [piecesG_none c [] _ (Lib.indexByte_none (by rw [← hone]; exact hi))]
      simp only [List.map_cons, List.map_nil, List.nil_append]
    · have hsz : (⟨#[c]⟩ : ByteArray).size = 1 := rfl
      rw [hsz] at hr
      obtain ⟨h1, h2⟩ := Lib.indexByte_some (by rw [← hone]; exact hi)
      rw [Lib.countB_hit s ⟨#[c]⟩ i (by rw [hsz]; exact Nat.le_refl _) hi, Nat.add_comm 1, Lib.splitB_hit _ _ _ _ i hi, hsz, ih _ (by rw [ByteArray.size_extract]; omega)]
      unfold pcs
      rw [piecesG_hit c i [] _ h1 h2, List.map_cons, List.nil_append, Nat.add_zero, Lib.extract_to_end]
      congr 1
      exact arr_of (Lib.extract_from_zero s i)
theorem split_is (c : UInt8) (s : ByteArray) : Lib.splitB ⟨#[c]⟩ 0 (Lib.countB s ⟨#[c]⟩) s = pcs c s := split_pcs c s.size s (Nat.le_refl _)
theorem split_len (c : UInt8) (s : ByteArray) : Lib.countB s ⟨#[c]⟩ + 1 = (pcs c s).length := by
  have : ∀ (n : Nat) (s : ByteArray), s.size ≤ n → Lib.countB s ⟨#[c]⟩ + 1 = (pcs c s).length := by
    intro n
    induction n with
    | zero =>
      intro s hs
      have h0 : s.data.toList = [] := List.eq_nil_of_length_eq_zero (by rw [size_list]; omega)
      have hi : Lib.indexB s ⟨#[c]⟩ = -1 := by unfold Lib.indexB; rw [h0]; rfl
      rw [Lib.countB_miss _ _ hi]
      unfold pcs
      rw [h0]
      rfl
    | succ n ih =>
      intro s hs
      have hone : Lib.indexB s ⟨#[c]⟩ = Lib.indexByte s.data.toList c := Lib.index_one _ _
      rcases Lib.indexB_cases s ⟨#[c]⟩ with hi | ⟨i, hi, hr⟩
      · rw [Lib.countB_miss _ _ hi]
        unfold pcs
        rw [piecesG_none c [] _ (Lib.indexByte_none (by rw [← hone]; exact hi))]
        rfl
      · have hsz : (⟨#[c]⟩ : ByteArray).size = 1 := rfl
        rw [hsz] at hr
        obtain ⟨h1, h2⟩ := Lib.indexByte_some (by rw [← hone]; exact hi)
        rw [Lib.countB_hit s ⟨#[c]⟩ i (by rw [hsz]; exact Nat.le_refl _) hi, hsz]
        have := ih (s.extract (i + 1) s.size) (by rw [ByteArray.size_extract]; omega)
        unfold pcs at this ⊢
        rw [piecesG_hit c i [] _ h1 h2, List.map_cons, List.length_cons, ← Lib.extract_to_end]
        omega
  exact this s.size s (Nat.le_refl _)

/-- What a table tells. -/
structure TB where
  st : Int
  ah : Int
  en : Int
  lp : List (Int × Int)
def TB.zero : TB := ⟨0, 0, 0, []⟩
/-- May the next leap be at the end of a day, as far as those ahead of it go? -/
def takesB (st : Int) (L : List (Int × Int)) (d : Int) : Bool := match L.getLast? with
  | none => decide (st ≤ d)
  | some e => decide (e.1 < d)
/-- The day of a word. -/
noncomputable def dayOf (s : ByteArray) : Option Int := open Classical in if h : ∃ p : Int × Int × Int, IsDate s p.1 p.2.1 p.2.2 then some (numV (Classical.choose h).1 (Classical.choose h).2.1 (Classical.choose h).2.2) else none
theorem isDate_one' {s : ByteArray} {y m d y' m' d' : Int} (h : IsDate s y m d) (k : IsDate s y' m' d') : y = y' ∧ m = m' ∧ d = d' := ⟨h.y_eq.trans k.y_eq.symm, h.m_eq.trans k.m_eq.symm, h.d_eq.trans k.d_eq.symm⟩
theorem dayOf_yes {s : ByteArray} {y m d : Int} (h : IsDate s y m d) : dayOf s = some (numV y m d) := by
  have hx : ∃ p : Int × Int × Int, IsDate s p.1 p.2.1 p.2.2 := ⟨(y, m, d), h⟩
  unfold dayOf
  rw [dif_pos hx]
  obtain ⟨e1, e2, e3⟩ := isDate_one' (Classical.choose_spec hx) h
  rw [e1, e2, e3]
theorem dayOf_no {s : ByteArray} (h : ¬ ∃ y m d, IsDate s y m d) : dayOf s = none := by
  unfold dayOf
  rw [dif_neg]
  rintro ⟨⟨y, m, d⟩, k⟩
  exact h ⟨y, m, d, k⟩
theorem dayOf_some {s : ByteArray} {n : Int} (h : dayOf s = some n) : ∃ y m d, IsDate s y m d ∧ n = numV y m d := by
  by_cases k : ∃ y m d, IsDate s y m d
  · obtain ⟨y, m, d, k⟩ := k
    rw [dayOf_yes k] at h
    exact ⟨y, m, d, k, (Option.some.inj h).symm⟩
  · rw [dayOf_no k] at h
    cases h
theorem dayOf_none {s : ByteArray} (h : dayOf s = none) : ¬ ∃ y m d, IsDate s y m d := by
  rintro ⟨y, m, d, k⟩
  rw [dayOf_yes k] at h
  cases h
theorem dayOf_bd {s : ByteArray} {n : Int} (h : dayOf s = some n) : -719162 ≤ n ∧ n ≤ 2932896 := by
  obtain ⟨y, m, d, k, rfl⟩ := dayOf_some h
  exact num_bd k.can
/-- A word's number from 0 to 99, in as few digits as can be. -/
def digitB (b : Int) : Bool := decide (48 ≤ b ∧ b ≤ 57)
def smallOf (s : ByteArray) : Option Int :=
  if s.size = 1 ∧ digitB (byt s 0) = true then some (byt s 0 - 48)
  else if s.size = 2 ∧ digitB (byt s 0) = true ∧ ¬ byt s 0 = 48 ∧ digitB (byt s 1) = true then some ((byt s 0 - 48) * 10 + (byt s 1 - 48)) else none
theorem digit_iff {b : Int} : digitB b = true ↔ 48 ≤ b ∧ b ≤ 57 := by unfold digitB; exact decide_eq_true_iff
theorem small_bd {s : ByteArray} {n : Int} (h : smallOf s = some n) : 0 ≤ n ∧ n ≤ 99 := by
  unfold smallOf at h
  split at h
  · rename_i k
    have := digit_iff.1 k.2
    simp only [Option.some.injEq] at h
    omega
  · split at h
    · rename_i k
      have := digit_iff.1 k.2.1
      have := digit_iff.1 k.2.2.2
      simp only [Option.some.injEq] at h
      omega
    · cases h
def startB : ByteArray := ⟨#[115, 116, 97, 114, 116]⟩
def leapB : ByteArray := ⟨#[108, 101, 97, 112]⟩
def endB : ByteArray := ⟨#[101, 110, 100]⟩
def moreB : ByteArray := ⟨#[43, 49]⟩
def lessB : ByteArray := ⟨#[45, 49]⟩
def stepOf (s : ByteArray) : Option Int := if s = moreB then some 1 else if s = lessB then some (-1) else none
theorem step_bd {s : ByteArray} {n : Int} (h : stepOf s = some n) : n = 1 ∨ n = -1 := by
  unfold stepOf at h
  split at h
  · exact .inl (Option.some.inj h).symm
  · split at h
    · exact .inr (Option.some.inj h).symm
    · cases h
/-- What a line's words tell: the state behind them, or the error's number. -/
noncomputable def startR (T : TB) (ws : List ByteArray) : Except Int TB := match ws with
  | [a, b, c] => if a = startB then match dayOf b, smallOf c with
      | some d, some n => .ok ⟨d, n, T.en, T.lp⟩
      | _, _ => .error 3
    else .error 3
  | _ => .error 3
noncomputable def leapR (T : TB) (ws : List ByteArray) : Except Int TB := match ws with
  | [a, b, c] => if a = leapB then match dayOf b, stepOf c with
      | some d, some n => if 64 ≤ T.lp.length then .error 6 else if takesB T.st T.lp d then .ok ⟨T.st, T.ah, T.en, T.lp ++ [(d, n)]⟩ else .error 12
      | _, _ => .error 3
    else .error 3
  | _ => .error 3
noncomputable def endR (T : TB) (ws : List ByteArray) : Except Int TB := match ws with
  | [a, b] => if a = endB then match dayOf b with
      | some d => if T.st < d ∧ takesB T.st T.lp d = true then .ok ⟨T.st, T.ah, d, T.lp⟩ else .error 12
      | none => .error 3
    else .error 3
  | _ => .error 3
noncomputable def lineR (s : Nat) (T : TB) (ws : List ByteArray) : Except Int (Nat × TB) :=
  if s = 0 then (startR T ws).map fun T => (1, T) else if s = 1 then (if ws.head? = some leapB then (leapR T ws).map fun T => (1, T) else (endR T ws).map fun T => (2, T)) else .error 3
/-- Does a line tell nothing? -/
def skipB (s : ByteArray) : Bool := decide (s.size = 0) || decide (byt s 0 = 35)
/-- What lines tell: the table; or the error's line, and number. -/
noncomputable def walkR : Nat → TB → List ByteArray → Nat → Except (Nat × Int) TB
  | s, T, [], k => if s = 2 then .ok T else .error (k, 3)
  | s, T, l :: ls, k => if skipB l then walkR s T ls (k + 1) else match lineR s T (pcs 32 l) with
    | .error c => .error (k + 1, c)
    | .ok (s', T') => walkR s' T' ls (k + 1)
noncomputable def parseR (s : ByteArray) : Except (Nat × Int) TB := if 16384 < s.size then .error (0, 5) else walkR 0 TB.zero (pcs 10 s) 0
/-- The next line that tells something, and behind which one it stands. -/
def nextR : List ByteArray → Nat → Nat × Option ByteArray
  | [], k => (k, none)
  | l :: ls, k => if skipB l then nextR ls (k + 1) else (k + 1, some l)
theorem nextR_bd : ∀ (ls : List ByteArray) (k : Nat), k ≤ (nextR ls k).1 ∧ (nextR ls k).1 ≤ k + ls.length
  | [], k => ⟨Nat.le_refl _, Nat.le_refl _⟩
  | l :: ls, k => by
    have := nextR_bd ls (k + 1)
    unfold nextR
    split
    · simp only [List.length_cons]; omega
    · simp only [List.length_cons]; omega
theorem nextR_mem : ∀ (ls : List ByteArray) (k : Nat) (l : ByteArray), (nextR ls k).2 = some l → l ∈ ls
  | [], k, l, h => by cases h
  | x :: ls, k, l, h => by
    unfold nextR at h
    split at h
    · exact List.mem_cons_of_mem _ (nextR_mem ls (k + 1) l h)
    · simp only [Option.some.injEq] at h
      exact h ▸ List.mem_cons_self ..
theorem walkR_cons (s : Nat) (T : TB) (l : ByteArray) (ls : List ByteArray) (k : Nat) : walkR s T (l :: ls) k = if skipB l then walkR s T ls (k + 1) else match lineR s T (pcs 32 l) with
    | .error c => .error (k + 1, c)
    | .ok (s', T') => walkR s' T' ls (k + 1) := by rw [walkR]
theorem nextR_cons (l : ByteArray) (ls : List ByteArray) (k : Nat) : nextR (l :: ls) k = if skipB l then nextR ls (k + 1) else (k + 1, some l) := by rw [nextR]
theorem walk_next : ∀ (ls : List ByteArray) (k s : Nat) (T : TB), walkR s T ls k = match nextR ls k with
    | (k', none) => if s = 2 then .ok T else .error (k', 3)
    | (k', some l) => match lineR s T (pcs 32 l) with
      | .error c => .error (k', c)
      | .ok (s', T') => walkR s' T' (ls.drop (k' - k)) k'
  | [], k, s, T => rfl
  | x :: ls, k, s, T => by
    rw [walkR_cons, nextR_cons]
    split
    · rw [walk_next ls (k + 1) s T]
      have hb := nextR_bd ls (k + 1)
      generalize nextR ls (k + 1) = r at hb
      obtain ⟨k', o⟩ := r
      dsimp only at hb
      cases o with
      | none => rfl
      | some l =>
        dsimp only
        rw [show k' - k = (k' - (k + 1)) + 1 by omega, List.drop_succ_cons]
    · dsimp only
      rw [show k + 1 - k = 1 by omega, List.drop_succ_cons, List.drop_zero]
end Go.Proofs.Ytmmdkafkfjfgnaa

/- A law's parameters that are structs of plain fields (integers, bools, strings, slices of integers; structs of such), by value, and slices of such. Nothing here speaks of one program. -/
namespace Go.Proofs.Ytmmdkafkfjfgnaa
open Go.ChangeShapes Go.WideShapes Go.RowKit Go.Deep Go.ChangeMaps Go.WideElems

/-- What a plain cell may hold. -/
inductive FK where
  | int (k : IntKind)
  | bool
  | str
  | ints (k : IntKind)

def FK.ok (W : World) : FK → Value → Prop
  | .int k, v => ∃ z, v = .int k z ∧ (Lit.int k z).wf = true
  | .bool, v => ∃ b, v = .bool b
  | .str, v => ∃ s : ByteArray, v = .string s ∧ s.size ≤ maxLen
  | .ints k, v => ∃ A n c zs, v = .slice A n c ∧ IntRow W k A n c zs

/-- Each cell holds what its kind says. -/
def Fit (W : World) : List FK → List Value → Prop
  | [], [] => True
  | k :: ks, v :: vs => k.ok W v ∧ Fit W ks vs
  | _, _ => False
theorem Fit.length {W : World} : ∀ {ks : List FK} {vs : List Value}, Fit W ks vs → vs.length = ks.length
  | [], [], _ => rfl
  | _ :: ks, _ :: vs, h => by
    have := Fit.length (ks := ks) (vs := vs) h.2
    simpa using this
theorem Fit.append {W : World} : ∀ {ks ls : List FK} {vs us : List Value}, Fit W ks vs → Fit W ls us → Fit W (ks ++ ls) (vs ++ us)
  | [], _, [], _, _, h => h
  | _ :: ks, _, _ :: vs, _, h, h' => ⟨h.1, Fit.append (ks := ks) (vs := vs) h.2 h'⟩
theorem FK.ok.below {W W' : World} {k : FK} {v : Value} (h : k.ok W v) (hb : Below W.heap.size W W') : k.ok W' v := by
  cases k with
  | int k => exact h
  | bool => exact h
  | str => exact h
  | ints k =>
    obtain ⟨A, n, c, zs, e, hr⟩ := h
    exact ⟨A, n, c, zs, e, hr.below hb⟩
theorem Fit.below {W W' : World} (hb : Below W.heap.size W W') : ∀ {ks : List FK} {vs : List Value}, Fit W ks vs → Fit W' ks vs
  | [], [], _ => trivial
  | _ :: ks, _ :: vs, h => ⟨h.1.below hb, Fit.below hb (ks := ks) (vs := vs) h.2⟩

/-- The kinds of a struct's fields, one behind the other; none: they don't lie so, or one isn't plain. -/
def flatFs (P : Program) (g : TypeId → Option (List FK)) : List Field → Nat → Option (List FK)
  | [], _ => some []
  | f :: r, off =>
    if f.offset = off then
      match g f.type with
      | some ks => if P.cellsOf f.type = ks.length then (flatFs P g r (off + ks.length)).map (ks ++ ·) else none
      | none => none
    else none
/-- The kinds of a type's cells. -/
def flat (P : Program) : Nat → TypeId → Option (List FK)
  | 0, _ => none
  | d + 1, t =>
    match P.underlying t with
    | some (.int k) => some [.int k]
    | some .bool => some [.bool]
    | some .string => some [.str]
    | some (.slice e) => match P.underlying e with
      | some (.int k) => if P.cellsOf e = 1 then some [.ints k] else none
      | _ => none
    | some (.struct fs) => match flatFs P (flat P d) fs.toList 0 with
      | some ks => if P.cellsOf t = ks.length then some ks else none
      | none => none
    | _ => none

section
variable {H : Type} {enc : TypeId × Value → H} {P : Program} {W : World}
theorem flatFs_fit {g : TypeId → Option (List FK)} {cs : List Value} {xs : List (DataW H × List MemPlace)} {n : Nat}
    (hg : ∀ t ks vs x, g t = some ks → DataW.trod enc P W 0 (fun _ => true) true n t vs = some x → Fit W ks vs) :
    ∀ (fs : List Field) (off i : Nat) (ks : List FK), flatFs P g fs off = some ks → xs.length = i + fs.length → off + ks.length = cs.length →
      (∀ (j : Nat) (f : Field), fs[j]? = some f → DataW.trod enc P W 0 (fun _ => true) true n f.type ((cs.drop f.offset).take (P.cellsOf f.type)) = xs[i + j]?) → Fit W ks (cs.drop off)
  | [], off, i, ks, h, _, hl, _ => by
    simp only [flatFs, Option.some.injEq] at h
    subst h
    rw [List.drop_eq_nil_of_le (by simp at hl; omega)]
    trivial
  | f :: r, off, i, ks, h, hx, hl, hf => by
    simp only [flatFs] at h
    split at h
    · rename_i ho
      split at h
      · rename_i k1 hk1
        split at h
        · rename_i hc
          rw [Option.map_eq_some_iff] at h
          obtain ⟨k2, hk2, rfl⟩ := h
          rw [List.length_append] at hl
          rw [List.length_cons] at hx
          have h0 := hf 0 f rfl
          rw [ho, hc, Nat.add_zero, List.getElem?_eq_getElem (by omega)] at h0
          have h1 := hg _ _ _ _ hk1 h0
          have h2 := flatFs_fit (cs := cs) (xs := xs) hg r (off + k1.length) (i + 1) k2 hk2 (by omega) (by omega) (fun j f' hj => by
            have := hf (j + 1) f' (by simpa using hj)
            rw [this]
            congr 1
            omega)
          have h3 := Fit.append h1 h2
          rwa [← List.drop_drop, List.take_append_drop] at h3
        · cases h
      · cases h
    · cases h
theorem flat_fit : ∀ (d : Nat) (t : TypeId) (ks : List FK) (cs : List Value) (n : Nat) (x : DataW H × List MemPlace), flat P d t = some ks → DataW.trod enc P W 0 (fun _ => true) true n t cs = some x → Fit W ks cs
  | 0, _, _, _, _, _, h, _ => by cases h
  | d + 1, t, ks, cs, n, x, h, hx => by
    unfold flat at h
    split at h
    · rename_i k hu
      simp only [Option.some.injEq] at h
      subst h
      obtain ⟨z, rfl, _, hw⟩ := DataW.trod_int hu hx
      exact ⟨⟨z, rfl, hw⟩, trivial⟩
    · rename_i hu
      simp only [Option.some.injEq] at h
      subst h
      obtain ⟨b, rfl, _⟩ := DataW.trod_bool hu hx
      exact ⟨⟨b, rfl⟩, trivial⟩
    · rename_i hu
      simp only [Option.some.injEq] at h
      subst h
      obtain ⟨s, rfl, _, hs⟩ := DataW.trod_string hu hx
      exact ⟨⟨s, rfl, hs⟩, trivial⟩
    · rename_i e hu
      split at h
      · rename_i k he
        split at h
        · rename_i hc
          simp only [Option.some.injEq] at h
          subst h
          rcases open_ints hu he hc hx with ⟨rfl, _⟩ | ⟨a, len, cap, zs, rfl, _, hl, hm, hz, _, hcell, hwz⟩
          · exact ⟨⟨none, 0, 0, [], rfl, rfl, Nat.le_refl _, by simp [maxLen], fun _ => rfl, fun h => absurd h (Nat.lt_irrefl _), by simp⟩, trivial⟩
          · simp only [if_true] at hz
            refine ⟨⟨some a, len, cap, zs.take len, rfl, by rw [List.length_take]; omega, hl, hm, (fun h => by cases h), fun h0 => ?_, fun n hn => hwz n (List.mem_of_mem_take hn)⟩, trivial⟩
            obtain ⟨b, off, rfl, hh⟩ := ints_at hcell (by omega)
            refine ⟨b, off, rfl, block_lt (hh 0 (by omega)), fun j hj => ?_⟩
            rw [hh j (by omega)]
            simp [List.getD, hj]
        · cases h
      · cases h
    · rename_i fs hu
      split at h
      · rename_i ks' hk
        split at h
        · rename_i hc
          simp only [Option.some.injEq] at h
          subst h
          obtain ⟨xs, n', rfl, _, hlen, hxl, hf⟩ := DataW.trod_struct hu hx
          have := flatFs_fit (cs := cs) (xs := xs) (n := n') (fun t ks vs x h1 h2 => flat_fit d t ks vs n' x h1 h2) fs.toList 0 0 _ hk (by simpa using hxl) (by omega) (fun j f hj => by
            rw [Nat.zero_add]
            exact hf j f (by simpa using hj))
          simpa using this
        · cases h
      · cases h
    · cases h

/-- A parameter that is a struct of plain fields. -/
theorem flat_arg {t : TypeId} {fs : Array Field} {ks : List FK} {v : Value} {e : DataW H} {p : List MemPlace} (d : Nat) (hs : P.underlying t = some (.struct fs)) (hk : flat P d t = some ks)
    (hv : Value.okWide P W .any 0 t v) (h : DataW.Trod enc P W 0 (fun _ => true) true t v e p) : ∃ vs : List Value, v = .agg vs.toArray ∧ Fit W ks vs := by
  obtain ⟨cs, rfl, _⟩ := okWide_struct hs hv
  obtain ⟨fuel, hf⟩ := h
  refine ⟨cs.toList, by simp, ?_⟩
  have := flat_fit d t ks _ _ _ hk hf
  simpa [Value.cells] using this

/-- A slice of elements of plain cells that came in. -/
structure FlatRow (W : World) (ks : List FK) (A : Option Addr) (n c : Nat) (f : Nat → List Value) : Prop where
  cap_le : n ≤ c
  max : c ≤ maxLen
  nil : A = none → c = 0
  fit : ∀ i, i < n → Fit W ks (f i)
  cell : 0 < n → ∃ b off, A = some ⟨b, off, none⟩ ∧ b < W.heap.size ∧ ∀ i, i < n → ∀ j, j < ks.length → W.cell? ⟨b, off + (i * ks.length + j), none⟩ = (f i)[j]?
theorem FlatRow.below {W' : World} {ks : List FK} {A : Option Addr} {n c : Nat} {f : Nat → List Value} (h : FlatRow W ks A n c f) (hb : Below W.heap.size W W') : FlatRow W' ks A n c f :=
  ⟨h.cap_le, h.max, h.nil, fun i hi => (h.fit i hi).below hb, fun hn => by
    obtain ⟨b, off, e, hlt, hc⟩ := h.cell hn
    exact ⟨b, off, e, Nat.lt_of_lt_of_le hlt hb.size, fun i hi j hj => (hb.cell (p := ⟨b, off + (i * ks.length + j), none⟩) hlt).trans (hc i hi j hj)⟩⟩
theorem FlatRow.at {ks : List FK} {A : Option Addr} {n c : Nat} {f : Nat → List Value} (h : FlatRow W ks A n c f) (m : Nat) (hm : ks.length = m) {i : Nat} (hi : i < n) :
    ∃ b off, A = some ⟨b, off, none⟩ ∧ b < W.heap.size ∧ ∀ j v, (f i)[j]? = some v → W.cell? ⟨b, off + i * m + j, none⟩ = some v := by
  obtain ⟨b, off, e, hb, hc⟩ := h.cell (by omega)
  refine ⟨b, off, e, hb, fun j v hv => ?_⟩
  have hj : j < ks.length := by
    rw [← (h.fit i hi).length]
    exact (List.getElem?_eq_some_iff.1 hv).1
  have := hc i hi j hj
  rw [hm] at this
  rw [Nat.add_assoc, this, hv]
theorem flats_arg {t e : TypeId} {ks : List FK} {v : Value} {x : DataW H} {p : List MemPlace} (d : Nat) (ht : P.underlying t = some (.slice e)) (hk : flat P d e = some ks) (hc : P.cellsOf e = ks.length) (h0 : 0 < ks.length)
    (hv : Value.okWide P W .any 0 t v) (h : DataW.Trod enc P W 0 (fun _ => true) true t v x p) : ∃ A n c f, v = .slice A n c ∧ FlatRow W ks A n c f := by
  obtain ⟨A, len, cap, rfl⟩ := okWide_slice ht hv
  obtain ⟨fuel, hf⟩ := h
  rcases open_slice ht hf with ⟨hcs, _⟩ | ⟨a, len', cap', m, n, D, Pl, hcs, _, hl, hm, hmm, _, hall⟩
  · simp [Value.cells] at hcs
    obtain ⟨rfl, rfl, rfl⟩ := hcs
    exact ⟨none, 0, 0, fun _ => [], rfl, Nat.le_refl _, by simp [maxLen], fun _ => rfl, fun i hi => absurd hi (Nat.not_lt_zero _), fun h => absurd h (Nat.lt_irrefl _)⟩
  · simp [Value.cells] at hcs
    obtain ⟨rfl, rfl, rfl⟩ := hcs
    simp only [if_true] at hmm
    subst hmm
    have hex : ∀ i, ∃ cs' : List Value, i < m → W.cells? 0 (a.add (i * P.cellsOf e)) (P.cellsOf e) = some cs' ∧ DataW.trod enc P W 0 (fun _ => true) true n e cs' = some (D i, Pl i) := by
      intro i
      by_cases hi : i < m
      · obtain ⟨cs', h1, h2⟩ := hall i hi
        exact ⟨cs', fun _ => ⟨h1, h2⟩⟩
      · exact ⟨[], fun h => absurd h hi⟩
    obtain ⟨f, hf'⟩ := Classical.axiomOfChoice hex
    refine ⟨some a, len, m, f, rfl, hl, hm, (fun h => by cases h), fun i hi => flat_fit d e ks _ n _ hk (hf' i (by omega)).2, fun hn => ?_⟩
    have hat : ∀ i, i < len → ∀ j, j < ks.length → W.cell? ((a.add (i * ks.length)).add j) = (f i)[j]? := fun i hi j hj => by
      have := (World.cells?_some (hf' i (by omega)).1).2.2 j (by rw [hc]; exact hj)
      rwa [hc] at this
    obtain ⟨b, off, spot⟩ := a
    have hf0 := (flat_fit d e ks _ n _ hk (hf' 0 (by omega)).2).length
    have hspot : spot = none := by
      have h00 := hat 0 hn 0 h0
      rw [List.getElem?_eq_getElem (by omega)] at h00
      simpa [Addr.add] using World.cell?_spot h00
    subst hspot
    have hpl : ∀ i j : Nat, (((⟨b, off, none⟩ : Addr).add i).add j) = ⟨b, off + (i + j), none⟩ := fun i j => by
      rw [Go.WideShapes.add_plain, Go.WideShapes.add_plain, Nat.add_assoc]
    refine ⟨b, off, rfl, ?_, fun i hi j hj => by rw [← hpl]; exact hat i hi j hj⟩
    have h00 := hat 0 hn 0 h0
    rw [List.getElem?_eq_getElem (by omega), hpl] at h00
    exact block_lt h00
end
end Go.Proofs.Ytmmdkafkfjfgnaa

/- Rows of two integers each, and rows of texts, as cells: read, appended to; those that came in. Nothing here speaks of one program. -/
namespace Go.Proofs.Ytmmdkafkfjfgnaa
open Go.RowKit
set_option linter.unusedVariables false
set_option linter.unusedSimpArgs false

/-- The cells of pairs, one behind the other. -/
def prs (L : List (Int × Int)) : List Value := L.flatMap fun e => [.int .i64 e.1, .int .i64 e.2]
theorem prs_nil : prs [] = [] := rfl
theorem prs_cons (e : Int × Int) (L : List (Int × Int)) : prs (e :: L) = .int .i64 e.1 :: .int .i64 e.2 :: prs L := rfl
theorem prs_append (L M : List (Int × Int)) : prs (L ++ M) = prs L ++ prs M := by simp [prs]
theorem prs_len : ∀ L : List (Int × Int), (prs L).length = L.length * 2
  | [] => rfl
  | e :: L => by rw [prs_cons]; simp [prs_len L]; omega
theorem prs_get : ∀ (L : List (Int × Int)) (i : Nat) (e : Int × Int), L[i]? = some e → (prs L)[i * 2]? = some (.int .i64 e.1) ∧ (prs L)[i * 2 + 1]? = some (.int .i64 e.2)
  | x :: L, 0, e, h => by
    simp only [List.getElem?_cons_zero, Option.some.injEq] at h
    subst h
    exact ⟨rfl, rfl⟩
  | x :: L, i + 1, e, h => by
    have := prs_get L i e (by simpa using h)
    rw [prs_cons, show (i + 1) * 2 = i * 2 + 1 + 1 by omega]
    simpa using this
theorem prs_one (L : List (Int × Int)) : ∀ v ∈ prs L, v.oneCell' = true := by
  intro v hv
  simp [prs] at hv
  obtain ⟨a, b, _, rfl | rfl⟩ := hv <;> rfl
theorem prs_at : ∀ (L : List (Int × Int)) (j : Nat), (prs L)[j]? = (L[j / 2]?).bind fun e => [Value.int .i64 e.1, .int .i64 e.2][j % 2]?
  | [], j => by simp [prs_nil]
  | e :: L, 0 => rfl
  | e :: L, 1 => rfl
  | e :: L, j + 2 => by
    rw [prs_cons]
    simp only [List.getElem?_cons_succ]
    rw [prs_at L j, show (j + 2) / 2 = j / 2 + 1 by omega, show (j + 2) % 2 = j % 2 by omega, List.getElem?_cons_succ]
theorem own_keepK {w w' : World} {B : Nat} {e : TypeId} {v : Value} {m k : Nat} {xs : List Value} (h : w.ownsRow B e k v m xs) (hb : Below w.heap.size w w') : w'.ownsRow B e k v m xs :=
  own_chg h (Chg.of_below (fun _ => False) hb) (fun _ _ h => h)
theorem own_monoK {w : World} {B B' : Nat} {e : TypeId} {v : Value} {m k : Nat} {xs : List Value} (h : w.ownsRow B e k v m xs) (hB : B' ≤ B) : w.ownsRow B' e k v m xs :=
  own_up h (fun q hq => Nat.le_trans hB (h.lt q hq).1)

/-- A slice of pairs, read. -/
structure PRow (w : World) (A : Option Addr) (n c : Nat) (L : List (Int × Int)) : Prop where
  len : L.length = n
  cap_le : n ≤ c
  max : c ≤ maxLen
  nil : A = none → c = 0
  cell : 0 < n → ∃ b off, A = some ⟨b, off, none⟩ ∧ b < w.heap.size ∧ ∀ j v, (prs L)[j]? = some v → w.cell? ⟨b, off + j, none⟩ = some v
section
variable {w w' : World} {B : Nat} {A : Option Addr} {n c : Nat} {L : List (Int × Int)}
theorem prow_none (w : World) : PRow w none 0 0 [] := ⟨rfl, Nat.le_refl _, Nat.zero_le _, fun _ => rfl, fun h => absurd h (Nat.lt_irrefl _)⟩
theorem PRow.below (h : PRow w A n c L) (hb : Below w.heap.size w w') : PRow w' A n c L :=
  ⟨h.len, h.cap_le, h.max, h.nil, fun hn => by
    obtain ⟨b, off, e, hl, hh⟩ := h.cell hn
    exact ⟨b, off, e, Nat.lt_of_lt_of_le hl hb.size, fun j v hv => (hb.cell (p := ⟨b, off + j, none⟩) hl).trans (hh j v hv)⟩⟩
theorem PRow.at (h : PRow w A n c L) {i : Nat} {x y : Int} (hi : L[i]? = some (x, y)) :
    ∃ b off, A = some ⟨b, off, none⟩ ∧ b < w.heap.size ∧ w.cell? ⟨b, off + i * 2, none⟩ = some (.int .i64 x) ∧ w.cell? ⟨b, off + i * 2 + 1, none⟩ = some (.int .i64 y) := by
  have hlt := (List.getElem?_eq_some_iff.1 hi).1
  obtain ⟨b, off, e1, hl, hh⟩ := h.cell (by rw [h.len] at hlt; omega)
  obtain ⟨g0, g1⟩ := prs_get L i _ hi
  exact ⟨b, off, e1, hl, hh _ _ g0, by rw [Nat.add_assoc]; exact hh _ _ g1⟩
theorem PRow.of_own {e : TypeId} (h : w.ownsRow B e 2 (.slice A n c) n (prs L)) : PRow w A n c L := by
  have hl := h.1
  rw [prs_len] at hl
  rcases own_open h with ⟨e1, hn, _⟩ | ⟨g, cap, cur, e1, hB, hH, hnc, hcm, hcl, hct⟩
  · simp only [Value.slice.injEq] at e1
    obtain ⟨rfl, rfl, rfl⟩ := e1
    exact ⟨by omega, Nat.le_refl _, Nat.zero_le _, fun _ => rfl, fun h => absurd h (Nat.lt_irrefl _)⟩
  · simp only [Value.slice.injEq, true_and] at e1
    obtain ⟨rfl, rfl⟩ := e1
    refine ⟨by omega, hnc, hcm, (fun h => by cases h), fun hn => ⟨g, 0, rfl, hH.lt, fun j v hv => ?_⟩⟩
    have hj := (List.getElem?_eq_some_iff.1 hv).1
    rw [Nat.zero_add, hH.cell, List.getElem?_toArray, ← hv, ← hct, List.getElem?_take, if_pos (by rw [prs_len] at hj; omega)]
end
theorem fit2 {W : World} {vs : List Value} (h : Fit W [.int .i64, .int .i64] vs) : ∃ e : Int × Int, vs = [.int .i64 e.1, .int .i64 e.2] ∧ Fits e.1 ∧ Fits e.2 := by
  match vs, h.length, h with
  | [y0, y1], _, h =>
    obtain ⟨⟨x0, rfl, h0⟩, ⟨x1, rfl, h1⟩, _⟩ := h
    exact ⟨(x0, x1), rfl, fits_wf h0, fits_wf h1⟩
theorem prow_of_flat {W : World} {A : Option Addr} {n c : Nat} {f : Nat → List Value} (h : FlatRow W [.int .i64, .int .i64] A n c f) :
    ∃ L : List (Int × Int), PRow W A n c L ∧ ∀ e ∈ L, Fits e.1 ∧ Fits e.2 := by
  have hex : ∀ i, ∃ e : Int × Int, i < n → f i = [.int .i64 e.1, .int .i64 e.2] ∧ Fits e.1 ∧ Fits e.2 := fun i => by
    by_cases hi : i < n
    · obtain ⟨e, h1, h2⟩ := fit2 (h.fit i hi)
      exact ⟨e, fun _ => ⟨h1, h2⟩⟩
    · exact ⟨(0, 0), fun h => absurd h hi⟩
  obtain ⟨g, hg⟩ := Classical.axiomOfChoice hex
  refine ⟨(List.range n).map g, ⟨by simp, h.cap_le, h.max, h.nil, fun hn => ?_⟩, ?_⟩
  · obtain ⟨b, off, e, hb, hc⟩ := h.cell hn
    refine ⟨b, off, e, hb, fun j v hv => ?_⟩
    rw [prs_at] at hv
    by_cases hj : j / 2 < n
    · have hr : ((List.range n).map g)[j / 2]? = some (g (j / 2)) := by simp [hj]
      rw [hr] at hv
      have h1 := hc (j / 2) hj (j % 2) (by show j % 2 < 2; omega)
      have h2 : j / 2 * [FK.int .i64, FK.int .i64].length + j % 2 = j := by show j / 2 * 2 + j % 2 = j; omega
      rw [h2, (hg _ hj).1] at h1
      rw [h1]
      exact hv
    · have hr : ((List.range n).map g)[j / 2]? = none := by rw [List.getElem?_eq_none]; simp; omega
      rw [hr] at hv
      cases hv
  · intro e he
    simp only [List.mem_map, List.mem_range] at he
    obtain ⟨i, hi, rfl⟩ := he
    exact (hg i hi).2

/-- The cells of texts. -/
def sts (L : List ByteArray) : List Value := L.map .string
theorem sts_len (L : List ByteArray) : (sts L).length = L.length := by simp [sts]
theorem sts_one (L : List ByteArray) : ∀ v ∈ sts L, v.oneCell' = true := by
  intro v hv
  simp [sts] at hv
  obtain ⟨a, _, rfl⟩ := hv
  rfl
theorem sts_append (L M : List ByteArray) : sts (L ++ M) = sts L ++ sts M := by simp [sts]
theorem sts_get {L : List ByteArray} {i : Nat} {s : ByteArray} (h : L[i]? = some s) : (sts L)[i]? = some (.string s) := by simp [sts, h]
/-- What a row of texts of the call's own tells at a place. -/
theorem own_text {w : World} {B : Nat} {e : TypeId} {A : Option Addr} {n c : Nat} {L : List ByteArray} (h : w.ownsRow B e 1 (.slice A n c) n (sts L)) {i : Nat} {s : ByteArray} (hi : L[i]? = some s) :
    ∃ b, A = some ⟨b, 0, none⟩ ∧ B ≤ b ∧ n ≤ c ∧ c ≤ maxLen ∧ w.cell? ⟨b, i, none⟩ = some (.string s) := by
  have hl := h.1
  rw [sts_len] at hl
  have hlt := (List.getElem?_eq_some_iff.1 hi).1
  rcases own_open h with ⟨e1, hn, _⟩ | ⟨g, cap, cur, e1, hB, hH, hnc, hcm, hcl, hct⟩
  · omega
  · simp only [Value.slice.injEq, true_and] at e1
    obtain ⟨rfl, rfl⟩ := e1
    refine ⟨g, rfl, hB, hnc, hcm, ?_⟩
    rw [hH.cell, List.getElem?_toArray, ← sts_get hi, ← hct, List.getElem?_take, if_pos (by omega)]
/-- A row of texts that a call has just laid. -/
theorem own_texts (w : World) (e : TypeId) (L : List ByteArray) (B : Nat) (hB : B ≤ w.heap.size) (hm : L.length ≤ maxLen) : (w.alloc (.cells (sts L).toArray e)).ownsRow B e 1 (.slice (some ⟨w.heap.size, 0, none⟩) L.length L.length) L.length (sts L) :=
  own_mk (Holds.new w e (sts L).toArray) hB (Nat.le_refl _) hm (by rw [sts_len, Nat.mul_one]) (by rw [Nat.mul_one, List.take_of_length_le (by rw [sts_len]; exact Nat.le_refl _)])

section
variable {P : Program} {w : World}
/-- In a walk: one element (just laid as a slice of one) is appended to a row of the call's own. -/
theorem wpList_pushK {ops : Array Oper} {rest : List Oper} {o : Oper} {a : Act} {Q : Exit → Act → World → Prop} (hgd : o.guard = none) (s x : Operand) (t : TypeId)
    (ho : o.op = .call { callee := .builtin .append, args := #[s, x], argTypes := #[t, t] })
    (B : Nat) (e : TypeId) (z : Value) (k bytes : Nat) (ht : P.underlying t = some (.slice e)) (hi : (P.info? e).map (fun i => (i.zero, i.size, i.bytes)) = some (some z, k, bytes)) (hzk : z.cells.size = k) (hk : 0 < k)
    (A : Option Addr) (n c : Nat) (xs : List Value) (hs : a.eval s = .slice A n c) (hown : w.ownsRow B e k (.slice A n c) n xs)
    (g : Nat) (te : TypeId) (ys : List Value) (hx : a.eval x = .slice (some ⟨g, 0, none⟩) 1 1) (hH : Holds w g te ys.toArray) (hy : ys.length = k) (hy1 : ∀ u ∈ ys, u.oneCell' = true) (hn : n ≤ 100000) (hbb : bytes ≤ 1000) (hbase : B ≤ w.heap.size)
    (h : ∀ A' c' w', w'.ownsRow B e k (.slice A' (n + 1) c') (n + 1) (xs ++ ys) → Below B w w' → wpList P ops Q rest (a.put o.dst (.slice A' (n + 1) c')) w') :
    wpList P ops Q (o :: rest) a w := by
  obtain ⟨i, hi0, hzz⟩ := Option.map_eq_some_iff.1 hi
  simp only [Prod.mk.injEq] at hzz
  obtain ⟨hz, hsz, hby⟩ := hzz
  have hbig : (n + 1) * bytes ≤ 140737488355328 := Nat.le_trans (Nat.mul_le_mul (show n + 1 ≤ 100001 by omega) hbb) (by decide)
  refine wpList_append_rowK w hgd s x t ho B e i _ k bytes ht hi0 hz hsz hby hzk hk _ n xs hs hown ⟨g, 0, none⟩ 1 1 ys hx (by omega) (fun j u hj => ?_) hy1 (by unfold maxLen; omega) hbig hbase ?_
  · rw [Go.WideShapes.add_plain, Nat.zero_add, hH.cell]
    rw [List.getElem?_toArray]
    exact hj
  · intro A' c' w' h1 h2 _
    exact h A' c' w' h1 ((Below.refl _ _).grown h2 hbase (fun k hk => (hown.lt k hk).1))
end
end Go.Proofs.Ytmmdkafkfjfgnaa

/- Package leap: the reader, how it lies, how it gives up, how it goes on. -/
namespace Go.Proofs.Ytmmdkafkfjfgnaa
open Go.RowKit
set_option linter.unusedSimpArgs false
set_option linter.unusedVariables false

/-- The table at block g, under way or not. -/
structure Tl (w : World) (B g : Nat) (T : TB) : Prop where
  base : B ≤ g
  lies : ∃ A c, Holds w g 104 #[.int .i64 T.st, .int .i64 T.ah, .int .i64 T.en, .slice A T.lp.length c] ∧ w.ownsRow B 77 2 (.slice A T.lp.length c) T.lp.length (prs T.lp)
section
variable {w w' : World} {B g : Nat} {L ws : List ByteArray} {k : Nat} {T : TB}
theorem Tl.below (h : Tl w B g T) (hb : Below w.heap.size w w') : Tl w' B g T := by
  obtain ⟨hB, A, c, h1, h2⟩ := h
  exact ⟨hB, A, c, h1.below hb h1.lt, own_keepK h2 hb⟩
/-- A table isn't touched where another object's block alone was. -/
theorem Tl.chg {q : Nat} {t : TypeId} {cs : Array Value} (h : Tl w B g T) (hq : Holds w q t cs) (h1 : t ≠ 104) (h2 : t ≠ 77) (hc : Chg (fun k => k = q) w w') : Tl w' B g T := by
  obtain ⟨hB, A, c, hH, hO⟩ := h
  refine ⟨hB, A, c, hH.chg hc (fun e => hH.apart hq (Ne.symm h1) e), own_chg hO hc (fun x hx e => hq.own_apart hO (Ne.symm h2) (by rw [← e]; exact hx))⟩
theorem Tl.lt (h : Tl w B g T) : g < w.heap.size := by
  obtain ⟨_, A, c, h1, _⟩ := h
  exact h1.lt
end
theorem size_set (w : World) (a : Addr) (v : Value) : (w.setCell a v).heap.size = w.heap.size := by simp [World.setCell]
theorem skip_yes {s : ByteArray} (h : skipB s = true) : s.size = 0 ∨ (¬ s.size = 0 ∧ byt s 0 = 35) := by
  unfold skipB at h
  by_cases h0 : s.size = 0
  · exact .inl h0
  · simp [h0] at h
    exact .inr ⟨h0, h⟩
theorem skip_no {s : ByteArray} (h : skipB s = false) : ¬ s.size = 0 ∧ ¬ byt s 0 = 35 := by
  unfold skipB at h
  simpa using h
theorem run_byte' (t : ByteArray) (h : ¬ t.size = 0) (W : World) : (Instr.index 9 (.string t) (.int .i64 0)).run Try.prog W = .ok (.int .u8 (byt t 0)) W := run_byte t 0 (by omega) W
theorem text_eq (a b : ByteArray) : (a.toList == b.toList) = decide (a = b) := by
  by_cases h : a = b
  · rw [h, decide_eq_true rfl]
    exact beq_self_eq_true _
  · rw [decide_eq_false h]
    refine beq_eq_false_iff_ne.2 fun e => h (ByteArray.ext (Array.toList_inj.1 ?_))
    rwa [Lib.toList_data, Lib.toList_data] at e
theorem empty_iff {s : ByteArray} : s = ⟨#[]⟩ ↔ s.size = 0 := by
  constructor
  · rintro rfl
    rfl
  · intro h
    have h0 : s.data.toList = [] := List.eq_nil_of_length_eq_zero (by rw [size_list]; exact h)
    exact arr_of h0
theorem empty_yes {s : ByteArray} (h : s.size = 0) : s.toList.isEmpty = true := by
  rw [empty_iff.2 h, Lib.toList_data]
  rfl
theorem empty_no {s : ByteArray} (h : ¬ s.size = 0) : s.toList.isEmpty = false := by
  rw [List.isEmpty_eq_false_iff]
  intro e
  rw [Lib.toList_data] at e
  exact h (empty_iff.1 (arr_of e))
theorem drop_one {L : List ByteArray} {p : Nat} {s : ByteArray} (h : L[p]? = some s) : L.drop p = s :: L.drop (p + 1) := by
  obtain ⟨hlt, e⟩ := List.getElem?_eq_some_iff.1 h
  rw [List.drop_eq_getElem_cons hlt, e]
end Go.Proofs.Ytmmdkafkfjfgnaa

/- Package leap: a line's words, a word's day, number, step. -/
namespace Go.Proofs.Ytmmdkafkfjfgnaa
open Go.RowKit
set_option linter.unusedSimpArgs false
set_option linter.unusedVariables false
/-- What a rune tells of its byte. -/
theorem rune_digit {s : ByteArray} {p : Nat} (h : p < s.size) : (digitB (byt s p) = true ↔ (48 ≤ ((Utf8.decode s p).1 : Int) ∧ ((Utf8.decode s p).1 : Int) ≤ 57)) ∧ (digitB (byt s p) = true → (Utf8.decode s p).2 = 1 ∧ ((Utf8.decode s p).1 : Int) = byt s p) ∧ (Utf8.decode s p).1 ≤ 2147483647 := by
  refine ⟨?_, ?_, decode_le s p⟩
  · by_cases ha : (s[p]'h).toNat < 128
    · rw [decode_ascii s p h ha, digit_iff, byt_at h]
    · have hd := decode_high s p h (by omega)
      rw [digit_iff, byt_at h]
      omega
  · intro hc
    by_cases ha : (s[p]'h).toNat < 128
    · rw [decode_ascii s p h ha, byt_at h]
      exact ⟨rfl, rfl⟩
    · exfalso
      rw [digit_iff, byt_at h] at hc
      omega
/-- The number of what has been read of a word. -/
def SecP (s : ByteArray) (p : Nat) (N : Int) : Prop := p ≤ s.size ∧ ((p = 0 ∧ N = 0) ∨ (p = 1 ∧ digitB (byt s 0) = true ∧ N = byt s 0 - 48) ∨ (p = 2 ∧ digitB (byt s 0) = true ∧ ¬ byt s 0 = 48 ∧ digitB (byt s 1) = true ∧ N = (byt s 0 - 48) * 10 + (byt s 1 - 48)))
theorem secP_bd {s : ByteArray} {p : Nat} {N : Int} (h : SecP s p N) : 0 ≤ N ∧ N ≤ 99 := by
  obtain ⟨_, ⟨_, h⟩ | ⟨_, h0, h⟩ | ⟨_, h0, h1, h2, h⟩⟩ := h
  · omega
  · rw [digit_iff] at h0; omega
  · rw [digit_iff] at h0 h2; omega
theorem secP_end {s : ByteArray} {N : Int} (h : SecP s s.size N) (h0 : ¬ s.size = 0) : smallOf s = some N := by
  obtain ⟨_, ⟨e, _⟩ | ⟨e, k0, h⟩ | ⟨e, k0, k1, k2, h⟩⟩ := h
  · exact absurd e h0
  · unfold smallOf
    rw [if_pos ⟨e, k0⟩, h]
  · unfold smallOf
    rw [if_neg (by omega), if_pos ⟨e, k0, k1, k2⟩, h]
theorem small_long {s : ByteArray} (h : 2 < s.size) : smallOf s = none := by
  unfold smallOf
  rw [if_neg (by omega), if_neg (by omega)]
theorem small_bad {s : ByteArray} {p : Nat} (hp : p < s.size) (hd : ¬ digitB (byt s p) = true) : smallOf s = none := by
  unfold smallOf
  rw [if_neg, if_neg]
  · rintro ⟨e, k0, _, k1⟩
    have : p = 0 ∨ p = 1 := by omega
    rcases this with rfl | rfl
    · exact hd k0
    · exact hd k1
  · rintro ⟨e, k0⟩
    have : p = 0 := by omega
    subst this
    exact hd k0
theorem small_nought {s : ByteArray} (hp : 1 < s.size) (h0 : byt s 0 = 48) : smallOf s = none := by
  unfold smallOf
  rw [if_neg (by omega), if_neg]
  rintro ⟨_, _, k, _⟩
  exact k h0
end Go.Proofs.Ytmmdkafkfjfgnaa

/- Package leap: which leap may be the next one; the lines of start, of a leap, of end. -/
namespace Go.Proofs.Ytmmdkafkfjfgnaa
open Go.RowKit
set_option linter.unusedSimpArgs false
set_option linter.unusedVariables false

theorem takes_nil (st d : Int) : takesB st [] d = decide (st ≤ d) := rfl
theorem takes_snoc (st d : Int) (L : List (Int × Int)) (e : Int × Int) : takesB st (L ++ [e]) d = decide (e.1 < d) := by
  unfold takesB
  rw [List.getLast?_append]
  rfl
theorem takes_any (w : World) (B q : Nat) (T : TB) (d : Int) (h : Tl w B q T) (hn : T.lp.length ≤ 1000) :
    Calls Try.prog 40 #[.pointer (some ⟨q, 0, none⟩), .int .i64 d] w fun e w' => e = .returned (.bool (takesB T.st T.lp d)) ∧ ∃ n, w' = w.drewN n := by
  obtain ⟨hB, A, c, hH, hO⟩ := h
  have c0 := hH.cell 0
  have c3 := hH.cell 3
  obtain ⟨st, ah, en, lp⟩ := T
  dsimp only at c0 c3 hO hn ⊢
  have hpr := PRow.of_own hO
  clear hH
  rcases List.eq_nil_or_concat lp with rfl | ⟨M, e, hL⟩
  · rw [takes_nil]
    clear hO
    go_enter Try.func40, Try.ntmps40
    go_wp2
    go_ret
    exact ⟨rfl, 0, rfl⟩
  · rw [List.concat_eq_append] at hL
    obtain ⟨x, y⟩ := e
    have hlen : lp.length = M.length + 1 := by rw [hL]; simp
    obtain ⟨b, off, rfl, hb, d0, d1⟩ := hpr.at (i := M.length) (x := x) (y := y) (by rw [hL]; simp)
    rw [hL, takes_snoc]
    dsimp only
    have hle := hpr.cap_le
    obtain ⟨m, hm⟩ : ∃ m, M.length = m := ⟨_, rfl⟩
    rw [hm] at hlen d0 d1
    have hz : ¬ (lp.length : Int) = 0 := by omega
    have hz1 := beq_no hz
    have ew : IntKind.i64.wrap ((lp.length : Int) - 1) = (m : Int) := by rw [IntWalk.i64_in _ (by omega)]; omega
    have hlt : (m : Int) < (lp.length : Int) := by omega
    obtain ⟨N, hN⟩ : ∃ N, lp.length = N := ⟨_, rfl⟩
    simp only [hN] at *
    clear hO hpr hL hm hN hlen d1 hle hn
    go_enter Try.func40, Try.ntmps40
    go_upto_region 3 with (fail)
    go_quiet (fail)
    go_wp2
    go_ret
    exact ⟨rfl, _, rfl⟩

end Go.Proofs.Ytmmdkafkfjfgnaa

/- Ranges over functions: what an iterator over a block of its own keeps; structs loaded and stored whole within such a walk. Nothing here speaks of one program. -/
namespace Go.Proofs.Ytmmdkafkfjfgnaa
open Go.RowKit Go.Shelf
set_option linter.unusedVariables false

/-- Cells of blocks from n on lie as they lay. -/
def Kept (n : Nat) (W W' : World) : Prop := W.heap.size ≤ W'.heap.size ∧ ∀ k cs t fr, n ≤ k → W.heap[k]? = some (Obj.cells cs t fr) → W'.heap[k]? = W.heap[k]?
theorem kept_t {n : Nat} {A B C : World} (h : Kept n A B) (k : Kept n B C) : Kept n A C :=
  ⟨Nat.le_trans h.1 k.1, fun i cs t fr hi hc => (k.2 i cs t fr hi ((h.2 i cs t fr hi hc).trans hc)).trans (h.2 i cs t fr hi hc)⟩
theorem kept_r (n : Nat) (W : World) : Kept n W W := ⟨Nat.le_refl _, fun _ _ _ _ _ _ => rfl⟩
theorem kept_b {n m : Nat} (hn : n ≤ m) (W : World) (l : Nat) (o o' : Obj) (hl : m ≤ l) (h : W.heap[l]? = some o) (hc : o.isCells = false) (_ : o.isWalk = false) : Kept n W (W.putObj l o') := by
  have hg := grownBy_putObj' W l o'
  refine ⟨hg.size, fun k cs t fr hk hcs => hg.block k (Array.getElem?_eq_some_iff.1 hcs).1 (fun e => ?_)⟩
  cases e
  rw [h] at hcs
  simp only [Option.some.injEq] at hcs
  subst hcs
  cases hc
theorem kept_chg {n : Nat} {S : Nat → Prop} {w w' : World} (hc : Chg S w w') (hS : ∀ k, S k → k < n) : Kept n w w' := ⟨hc.size, fun k cs t fr hk hcs => hc.block k (Array.getElem?_eq_some_iff.1 hcs).1 (fun e => by have := hS k e; omega)⟩
theorem kept_below {n : Nat} {w w' : World} (h : Below w.heap.size w w') : Kept n w w' := ⟨h.size, fun k cs t fr _ hcs => h.block k (Array.getElem?_eq_some_iff.1 hcs).1⟩
theorem Holds.kept {n : Nat} {W W' : World} {g : Nat} {t : TypeId} {cs : Array Value} (h : Holds W g t cs) (hk : Kept n W W') (hn : n ≤ g) : Holds W' g t cs := (hk.2 g _ _ _ hn h).trans h
theorem grown_below {w w' : World} (hb : Below w.heap.size w w') : w.grownBy w' none := ⟨hb.os, hb.tape, hb.output, hb.size, fun k hk _ => hb.block k hk⟩

section
variable {F : Fence} {n : Nat} {P : Program}
theorem wpListIn_load_at {ops : Array Oper} {rest : List Oper} {o : Oper} {a : Act} {w : World} {Q : Exit → Act → World → Prop} (hro : F.round = none) (hgd : o.guard = none) (ty : TypeId) (x : Operand) (ho : o.op = .load ty x)
    (g off : Nat) (hx : a.eval x = .pointer (some ⟨g, off, none⟩)) (t : TypeId) (cur : Array Value) (cs : List Value) (d : TypeDesc) (hg : Holds w g t cur) (hcs : ∀ j v, cs[j]? = some v → cur[off + j]? = some v)
    (hu : P.underlying ty = some d) (hd : (match d with | .struct _ | .array _ _ => true | _ => false) = true) (hi : (P.info? ty).map (·.size) = some cs.length)
    (h : wpListIn F n P ops Q rest (a.put o.dst (.agg cs.toArray)) w) : wpListIn F n P ops Q (o :: rest) a w :=
  wpListIn_plain hgd fun _ hK => by
    refine ⟨fun f hf => by simp [Oper.about, ho] at hf, ?_⟩
    rw [hro]
    show o.uponIn F n P a _ Q ((execOp a.eval o).run P w)
    unfold execOp
    simp only [ho, hx, Instr.loadAt, Instr.sureAddr, Sem.run_bind, Sem.run_pure, Result.andThen_ok, run_loadVar_at w g off t ty cur cs d hg hcs hu hd hi]
    exact hK _ _ h
/-- A struct that was loaded whole, stored whole into a new block. -/
theorem wpListIn_store_new {ops : Array Oper} {rest : List Oper} {o : Oper} {a : Act} {w : World} {Q : Exit → Act → World → Prop} (hro : F.round = none) (hgd : o.guard = none) (ty : TypeId) (x y : Operand) (ho : o.op = .store ty x y)
    (g : Nat) (cells : List Value) (hx : a.eval x = .pointer (some ⟨g, 0, none⟩)) (hy : a.eval y = .agg cells.toArray)
    (t : TypeId) (cur : List Value) (hg : Holds w g t cur.toArray) (hi : (P.info? ty).map (·.size) = some cells.length)
    (hfit : cells.length = cur.length) (h1 : ∀ v ∈ cells, v.oneCell' = true) (W1 : World) (hW1 : w.setRow g cells.toArray = W1)
    (h : wpListIn F n P ops Q rest (a.put o.dst undef) W1) : wpListIn F n P ops Q (o :: rest) a w :=
  wpListIn_plain hgd fun _ hK => by
    refine ⟨fun f hf => by simp [Oper.about, ho] at hf, ?_⟩
    rw [hro]
    show o.uponIn F n P a _ Q ((execOp a.eval o).run P w)
    have hs := run_storeVar_at (P := P) w g 0 t ty cur cells hg hi (by omega) h1
    rw [splice_all _ _ hfit, hW1] at hs
    unfold execOp
    simp only [ho, hx, hy, Instr.storeAt, Instr.sureAddr, Sem.run_bind, Sem.run_pure, Result.andThen_ok, hs]
    exact hK _ _ h
end
end Go.Proofs.Ytmmdkafkfjfgnaa

/- Ranges over functions within a loop: the marks that they leave, one a round; what a walk's own blocks leave as it lay. Nothing here speaks of one program. -/
namespace Go.Proofs.Ytmmdkafkfjfgnaa
set_option linter.unusedVariables false
open Go.RowKit

/-- Row: a block that is no cells, if there is one. -/
def NoCells (w : World) (row : Option Nat) : Prop := ∀ r, row = some r → ∃ o : Obj, w.heap[r]? = some o ∧ o.isCells = false
theorem Holds.turned {w w' : World} {g : Nat} {t : TypeId} {cs : Array Value} {row : Option Nat} (h : Holds w g t cs) (hg : w.grownBy w' row) (hr : NoCells w row) : Holds w' g t cs :=
  h.grown hg (fun e => by
    obtain ⟨o, ho, hc⟩ := hr _ e.symm
    rw [show w.heap[g]? = _ from h] at ho
    cases ho
    cases hc)
theorem others_of_chg {w w' : World} {S : Nat → Prop} (hc : Chg S w w') (hS : ∀ k, S k → ∃ cs t fr, w.heap[k]? = some (.cells cs t fr)) : KeepsOthers w w' :=
  ⟨hc.size, fun k o hk ho => (hc.block k (Array.getElem?_eq_some_iff.1 hk).1 (fun e => by
    obtain ⟨cs, t, fr, h⟩ := hS k e
    rw [h] at hk
    cases hk
    cases ho)).trans hk⟩
theorem others_of_below {w w' : World} (h : Below w.heap.size w w') : KeepsOthers w w' := ⟨h.size, fun k o hk _ => (h.block k (Array.getElem?_eq_some_iff.1 hk).1).trans hk⟩

/-- The marks of ranges that are over. -/
def mark (D : Nat) : Deferred := { target := .collected D, args := #[] }
def Marks (w : World) (lo hi : Nat) (Ds : List Nat) : Prop := Ds.Nodup ∧ ∀ D ∈ Ds, lo ≤ D ∧ D < hi ∧ w.heap[D]? = some (.deferred (some []))
theorem Marks.nil (w : World) (lo hi : Nat) : Marks w lo hi [] := ⟨List.nodup_nil, fun D h => by cases h⟩
theorem Marks.turned {w w' : World} {lo hi : Nat} {Ds : List Nat} {row : Option Nat} (h : Marks w lo hi Ds) (hg : w.grownBy w' row) (hr : ∀ r, row = some r → hi ≤ r) : Marks w' lo hi Ds :=
  ⟨h.1, fun D hD => ⟨(h.2 D hD).1, (h.2 D hD).2.1, (hg.block D (Array.getElem?_eq_some_iff.1 (h.2 D hD).2.2).1 (fun e => by have := hr _ e.symm; have := (h.2 D hD).2.1; omega)).trans (h.2 D hD).2.2⟩⟩
theorem Marks.others {w w' : World} {lo hi : Nat} {Ds : List Nat} (h : Marks w lo hi Ds) (hk : KeepsOthers w w') : Marks w' lo hi Ds :=
  ⟨h.1, fun D hD => ⟨(h.2 D hD).1, (h.2 D hD).2.1, hk.same D _ (h.2 D hD).2.2 rfl⟩⟩
theorem Marks.up {w : World} {lo hi hi' : Nat} {Ds : List Nat} (h : Marks w lo hi Ds) (hh : hi ≤ hi') : Marks w lo hi' Ds := ⟨h.1, fun D hD => ⟨(h.2 D hD).1, by have := (h.2 D hD).2.1; omega, (h.2 D hD).2.2⟩⟩
theorem Marks.cons {w : World} {lo hi D hi' : Nat} {Ds : List Nat} (h : Marks w lo hi Ds) (hlo : lo ≤ hi) (hD : hi ≤ D) (hd : w.heap[D]? = some (.deferred (some []))) (hh : D < hi') : Marks w lo hi' (D :: Ds) := by
  refine ⟨List.nodup_cons.2 ⟨fun hm => by have := (h.2 D hm).2.1; omega, h.1⟩, fun E hE => ?_⟩
  rcases List.mem_cons.1 hE with rfl | hE
  · exact ⟨by omega, hh, hd⟩
  · exact ⟨(h.2 E hE).1, by have := (h.2 E hE).2.1; omega, (h.2 E hE).2.2⟩
section
variable {P : Program} {F : Fence} {n : Nat} {fn : Func} {tmps : Array Value} {R : Ending → World → Prop} {I : World → Prop} {lo hi : Nat}
theorem leaves_marks (hI : ∀ W D, lo ≤ D → I W → W.heap[D]? = some (.deferred (some [])) → I (W.putObj D (.deferred none))) (hend : ∀ W, I W → LeavesInM F n P fn tmps R [] .returning W) :
    ∀ (Ds : List Nat) (W : World), Marks W lo hi Ds → I W → LeavesInM F n P fn tmps R (Ds.map mark) .returning W
  | [], W, _, h => hend W h
  | D :: Ds, W, hm, h => by
    obtain ⟨h1, _, h3⟩ := hm.2 D (List.mem_cons_self ..)
    refine ⟨by simp, .inl ⟨D, _, rfl, run_takeDeferred h3, leaves_marks hI hend Ds _ ?_ (hI W D h1 h h3)⟩⟩
    have hnd := List.nodup_cons.1 hm.1
    refine ⟨hnd.2, fun E hE => ?_⟩
    obtain ⟨e1, e2, e3⟩ := hm.2 E (List.mem_cons_of_mem _ hE)
    exact ⟨e1, e2, (World.putObj_heap_other (by intro e; subst e; exact hnd.1 hE)).trans e3⟩
end
end Go.Proofs.Ytmmdkafkfjfgnaa

/- Ranges over functions whose element is boxed as each round begins (a struct that is a round's variable). Nothing here speaks of one program. -/
namespace Go.Proofs.Ytmmdkafkfjfgnaa
open Go.RowKit
set_option linter.unusedVariables false
section
variable {F : Fence} {n : Nat} {P : Program} {w : World}
theorem range_boxed {α : Type} {g : Operand} {ps : Array Tmp} {assign body : Code} {Q : Exit → Act → World → Prop} {a : Act}
    (hro : F.round = none) (h1 : 1 ≤ n) {gf : Nat} {lb : Array Value} (hg : a.eval g = .func (.func gf) #[] lb) (hFg : F.fn gf) (eg : ∀ args w, (callFunc gf args).run P w = .ok (.enter gf args) w)
    {encs : α → Array Value} {Kp : World → World → Prop} {S Sp : List α → Prop} {N : Nat} {w0 : World} (hseq : SeqStopsK F (n - 1) P gf lb encs Kp S Sp N w0)
    (hKt : ∀ {A B C : World}, Kp A B → Kp B C → Kp A C) (hKb : ∀ (W : World) (l : Nat) (o o' : Obj), w.heap.size ≤ l → W.heap[l]? = some o → o.isCells = false → o.isWalk = false → Kp W (W.putObj l o')) (hKn : ∀ W W', Below W.heap.size W W' → Kp W W') (hb0 : Below w0.heap.size w0 w) (hps : ∀ x, (encs x).size = ps.size)
    (I : List α → World → Prop) (Ix : Code → List α → World → Prop) (hI : OwnFrom w.heap.size I) (hIx : ∀ c, OwnFrom w.heap.size (Ix c)) (h0 : I [] w) (bt : TypeId) (bcs : α → Array Value) (a₁ : α → Nat → Act)
    (hassign : ∀ (l : Nat) (x : α) (b : Nat) (W : World) (K : Act → World → Prop), W.heap.size = b → K (a₁ x b) (W.alloc (.cells (bcs x) bt)) →
      assign.wpIn (F.inRound l) (n - 1 - 1) P (Exit.then K (fun _ _ _ => False)) { tmps := (ps.zip (encs x)).foldl (fun t (p, v) => t.setIfInBounds p v) a.tmps, defers := [] } W)
    (hbody : ∀ (l : Nat) (pre : List α) (x : α) (b : Nat) (W : World), w.heap.size ≤ l → (∃ r, W.heap[l]? = some (.loop r)) → I pre W → Holds W b bt (bcs x) → pre.length < N → body.wpIn (F.inRound l) (n - 1 - 1) P (ownPostG w.heap.size Kp I Ix (pre ++ [x]) W) (a₁ x b) W)
    (hdone : ∀ (D : Nat) (xs : List α) (W : World), w.heap.size ≤ D → S xs → I xs W → W.heap[D]? = some (.deferred (some [])) → Q .normal { a with defers := { target := .collected D, args := #[] } :: a.defers } W)
    (hstop : ∀ (D : Nat) (c : Code) (pre : List α) (W : World), w.heap.size ≤ D → Sp pre → Ix c pre W → W.heap[D]? = some (.deferred (some [])) → c.wpIn F n P Q { a with defers := { target := .collected D, args := #[] } :: a.defers } W) :
    (Code.rangeFunc g ps assign body).wpIn F n P Q a w :=
  wpIn_rangeFunc_ownH hro h1 hg hFg eg hseq (fun h k => hKt h k) hKb hb0 hps I Ix hI hIx h0 (fun x a' W => ∃ b, a' = a₁ x b ∧ Holds W b bt (bcs x))
    (fun x a' s W W' row hs hg hr => by
      obtain ⟨b, e, h⟩ := hs
      exact ⟨b, e, h.turned hg (fun r e => (hr r e).2)⟩)
    (fun l pre x W K hi hK => hassign l x _ W K rfl (hK _ _ ((others_of_below (below_alloc W _)).from _) (hKn _ _ (below_alloc W _)) (hI.alloc _ hi) ⟨_, rfl, Holds.new W _ _⟩))
    (fun l pre x a' W hl hr hi e hlen => by
      obtain ⟨b, rfl, h⟩ := e
      exact hbody l pre x b W hl hr hi h hlen) hdone hstop
end
end Go.Proofs.Ytmmdkafkfjfgnaa

/- Package leap: what All goes over; Range, Ahead, Step. -/
namespace Go.Proofs.Ytmmdkafkfjfgnaa
open Go.RowKit Go.Shelf
set_option linter.unusedVariables false
set_option linter.unusedSimpArgs false
attribute [local go_sem] Oper.semAt_some

/-- Cells of blocks below a, and of those from n on, lie as they lay. -/
def KeptO (a n : Nat) (W W' : World) : Prop := W.heap.size ≤ W'.heap.size ∧ ∀ k cs t fr, (k < a ∨ n ≤ k) → W.heap[k]? = some (Obj.cells cs t fr) → W'.heap[k]? = W.heap[k]?
theorem keptO_t {a n : Nat} {A B C : World} (h : KeptO a n A B) (k : KeptO a n B C) : KeptO a n A C :=
  ⟨Nat.le_trans h.1 k.1, fun i cs t fr hi hc => (k.2 i cs t fr hi ((h.2 i cs t fr hi hc).trans hc)).trans (h.2 i cs t fr hi hc)⟩
theorem keptO_b {a n : Nat} (W : World) (l : Nat) (o o' : Obj) (h : W.heap[l]? = some o) (hc : o.isCells = false) (_ : o.isWalk = false) : KeptO a n W (W.putObj l o') := by
  have hg := grownBy_putObj' W l o'
  refine ⟨hg.size, fun k cs t fr hk hcs => hg.block k (Array.getElem?_eq_some_iff.1 hcs).1 (fun e => ?_)⟩
  cases e
  rw [h] at hcs
  simp only [Option.some.injEq] at hcs
  subst hcs
  cases hc
theorem keptO_chg {a n : Nat} {S : Nat → Prop} {w w' : World} (hc : Chg S w w') (hS : ∀ k, S k → a ≤ k ∧ k < n) : KeptO a n w w' := ⟨hc.size, fun k cs t fr hk hcs => hc.block k (Array.getElem?_eq_some_iff.1 hcs).1 (fun e => by have := hS k e; omega)⟩
theorem keptO_below {a n : Nat} {w w' : World} (h : Below w.heap.size w w') : KeptO a n w w' := ⟨h.size, fun k cs t fr _ hcs => h.block k (Array.getElem?_eq_some_iff.1 hcs).1⟩
theorem Holds.keptO {a n : Nat} {W W' : World} {g : Nat} {t : TypeId} {cs : Array Value} (h : Holds W g t cs) (hk : KeptO a n W W') (hn : g < a ∨ n ≤ g) : Holds W' g t cs := (hk.2 g _ _ _ hn h).trans h

/-- A table that is read: all of it lies below a. -/
structure Rt (w : World) (a g : Nat) (T : TB) : Prop where
  lt : g < a
  few : T.lp.length ≤ 1000
  lies : ∃ A c, Holds w g 104 #[.int .i64 T.st, .int .i64 T.ah, .int .i64 T.en, .slice A T.lp.length c] ∧ w.ownsRow 0 77 2 (.slice A T.lp.length c) T.lp.length (prs T.lp) ∧ ∀ z, (Value.slice A T.lp.length c).ownBlock = some z → z < a
theorem Tl.rt {w : World} {B q a : Nat} {T : TB} (h : Tl w B q T) (hn : T.lp.length ≤ 1000) (ha : w.heap.size ≤ a) : Rt w a q T := by
  obtain ⟨hB, A, c, hH, hO⟩ := h
  exact ⟨Nat.lt_of_lt_of_le hH.lt ha, hn, A, c, hH, own_monoK hO (Nat.zero_le _), fun z hz => Nat.lt_of_lt_of_le (hO.lt z hz).2 ha⟩
theorem Rt.keptO {w w' : World} {a n g : Nat} {T : TB} (h : Rt w a g T) (hk : KeptO a n w w') : Rt w' a g T := by
  obtain ⟨hl, hf, A, c, hH, hO, hz⟩ := h
  refine ⟨hl, hf, A, c, hH.keptO hk (.inl hl), ⟨hO.1, ?_⟩, hz⟩
  rcases hO.2 with h2 | ⟨q, cap, cur, he, hB, hg, r⟩
  · exact .inl h2
  · have hq : q < a := hz q (by rw [he]; rfl)
    exact .inr ⟨q, cap, cur, he, hB, (hk.2 q _ _ _ (.inl hq) hg).trans hg, r⟩
theorem Rt.below {w w' : World} {a g : Nat} {T : TB} (h : Rt w a g T) (hb : Below w.heap.size w w') : Rt w' a g T := h.keptO (n := 0) (keptO_below hb)
theorem Rt.mono {w : World} {a a' g : Nat} {T : TB} (h : Rt w a g T) (ha : a ≤ a') : Rt w a' g T := by
  obtain ⟨hl, hf, A, c, hH, hO, hz⟩ := h
  exact ⟨Nat.lt_of_lt_of_le hl ha, hf, A, c, hH, hO, fun z h => Nat.lt_of_lt_of_le (hz z h) ha⟩
/-- A table, or a nil one. -/
def Src (w : World) (a : Nat) (p : Option Addr) (st en : Int) (L : List (Int × Int)) : Prop := (p = none ∧ st = 0 ∧ en = 0 ∧ L = []) ∨ ∃ g T, p = some ⟨g, 0, none⟩ ∧ Rt w a g T ∧ st = T.st ∧ en = T.en ∧ L = T.lp
section
variable {w w' : World} {a : Nat} {p : Option Addr} {st en : Int} {L : List (Int × Int)}
theorem Src.below (h : Src w a p st en L) (hb : Below w.heap.size w w') : Src w' a p st en L := by
  rcases h with h | ⟨g, T, e, h, r⟩
  · exact .inl h
  · exact .inr ⟨g, T, e, h.below hb, r⟩
theorem Src.keptO {n : Nat} (h : Src w a p st en L) (hb : KeptO a n w w') : Src w' a p st en L := by
  rcases h with h | ⟨g, T, e, h, r⟩
  · exact .inl h
  · exact .inr ⟨g, T, e, h.keptO hb, r⟩
theorem Src.mono {a' : Nat} (h : Src w a p st en L) (ha : a ≤ a') : Src w a' p st en L := by
  rcases h with h | ⟨g, T, e, h, r⟩
  · exact .inl h
  · exact .inr ⟨g, T, e, h.mono ha, r⟩
theorem Src.le (h : Src w a p st en L) : L.length ≤ 1000 := by
  rcases h with ⟨_, _, _, rfl⟩ | ⟨g, T, e, h, _, _, rfl⟩
  · exact Nat.zero_le _
  · exact h.few
end
theorem src_nil (w : World) (a : Nat) : Src w a none 0 0 [] := .inl ⟨rfl, rfl, rfl, rfl⟩
theorem Rt.src {w : World} {a g : Nat} {T : TB} (h : Rt w a g T) : Src w a (some ⟨g, 0, none⟩) T.st T.en T.lp := .inr ⟨g, T, rfl, h, rfl, rfl, rfl⟩
theorem range_any (w : World) (a : Nat) (p : Option Addr) (st en : Int) (L : List (Int × Int)) (h : Src w a p st en L) :
    Calls Try.prog 50 #[.pointer p] w fun e w' => e = .returned (.tuple #[.int .i64 st, .int .i64 en]) ∧ ∃ n, w' = w.drewN n := by
  rcases h with ⟨rfl, rfl, rfl, rfl⟩ | ⟨g, T, rfl, hr, rfl, rfl, rfl⟩
  · go_enter Try.func50, Try.ntmps50
    go_wp2
    go_ret2
    exact ⟨rfl, 0, rfl⟩
  · obtain ⟨_, _, A, c, hH, _, _⟩ := hr
    have c0 := hH.cell 0
    have c2 := hH.cell 2
    clear hH
    go_enter Try.func50, Try.ntmps50
    first
      | (go_wp2; go_ret2; exact ⟨rfl, 0, rfl⟩)
      | (go_upto_region 3 with (fail); go_quiet (fail); go_wp2; go_ret2; exact ⟨rfl, _, rfl⟩)
/-- All: the table's pointer is boxed; the function value captures the box. -/
theorem all_any (w : World) (p : Option Addr) :
    Calls Try.prog 51 #[.pointer p] w fun e w' => e = .returned (.func (.func 54) #[] #[.pointer (some ⟨w.heap.size, 0, none⟩)]) ∧ w' = w.alloc (.cells #[.pointer p] 27) := by
  go_enter Try.func51, Try.ntmps51
  go_wp2
  go_ret
  exact ⟨rfl, rfl⟩
/-- A leap as All tells it. -/
def lpA (x : Int × Int) : Array Value := #[.agg #[.int .i64 x.1, .int .i64 x.2]]
set_option maxRecDepth 100000 in
set_option maxHeartbeats 2000000 in
theorem all1_map {α : Type} (φ : α → Int × Int) (M : List α) (n : Nat) (hn : 1 ≤ n) (p a n₀ : Nat) (q : Option Addr) (st en : Int) (L : List (Int × Int)) (w : World) (h : Src w a q st en L) (hM : M.map φ = L) (hp : w.cell? ⟨p, 0, none⟩ = some (.pointer q)) (hn₀ : n₀ ≤ w.heap.size) :
    SeqStopsK Fence.wide n Try.prog 54 #[.pointer (some ⟨p, 0, none⟩)] (fun x => lpA (φ x)) (KeptO a n₀) (fun ys => ys = M) (fun pre => pre <+: M) M.length w := fun l J Jx W hW hJ hJx hY h0 => by
  have hlm : M.length = L.length := by rw [← hM]; simp
  have hpw : p < w.heap.size := block_lt hp
  have hp1 : W.cell? ⟨p, 0, none⟩ = some (.pointer q) := (hW.cell (p := ⟨p, 0, none⟩) hpw).trans hp
  have hsz := hW.size
  have hS := h.below hW
  have H0 := Lib.hid h0
  have HY := Lib.hid hY
  have HJ := Lib.hid hJ
  clear hp hW h0 hY hJ h
  refine callsIn_of_wp Try.func54 rfl trivial ?_ rfl
  simp only [Try.ntmps54, List.size_toArray, List.length_cons, List.length_nil, Nat.reduceAdd, Nat.reduceSub, Array.replicate_succ, Array.replicate_zero, List.push_toArray, List.append_toArray, List.nil_append, List.cons_append]
  rcases hS with ⟨rfl, _, _, rfl⟩ | ⟨g, T, rfl, hT, _, _, rfl⟩
  · have hM0 : M = [] := List.eq_nil_of_length_eq_zero hlm
    subst hM0
    clear hM hlm
    gi_wp2
    refine bodyPost_ret (results_none rfl _ _ _) rfl ?_
    first | exact ⟨⟨_, rfl⟩, .inl ⟨_, rfl, H0.out⟩⟩ | exact ⟨⟨_, rfl⟩, .inl H0.out⟩
  · have HT := Lib.hid hT
    obtain ⟨_, hfew, A, c, hH, hO, hz⟩ := hT
    have c3 := hH.cell 3
    obtain ⟨L, hL⟩ : ∃ L, T.lp = L := ⟨_, rfl⟩
    simp only [hL] at *
    have HR := Lib.hid (PRow.of_own hO)
    have hRow : ∀ W', KeptO a n₀ W W' → PRow W' A L.length c L := fun W' hk => by
      refine PRow.of_own (e := 77) (B := 0) ⟨hO.1, ?_⟩
      rcases hO.2 with h2 | ⟨q, cap, cur, he, hB, hg, r⟩
      · exact .inl h2
      · exact .inr ⟨q, cap, cur, he, hB, (hk.2 q _ _ _ (.inl (hz q (by rw [he]; rfl))) hg).trans hg, r⟩
    have HRow := Lib.hid hRow
    have HMM := Lib.hid hM
    have HLM := Lib.hid hlm
    clear hH hO hz hRow hL HT hM hlm
    gi_wp2
    gi_loopw [12] (fun i wr => ∃ k : Nat, k ≤ L.length ∧ i = .int .i64 k ∧ J (M.take k) wr ∧ KeptO a n₀ W wr) (fun i _ => L.length - (intOf i).toNat)
    case atStart => exact ⟨0, Nat.zero_le _, rfl, by rw [List.take_zero]; exact H0.out, ⟨Nat.le_refl _, fun _ _ _ _ _ _ => rfl⟩⟩
    case round =>
      obtain ⟨k, hk, rfl, hJs, hks⟩ := hrel
      by_cases hlt : k < L.length
      · have hltM : k < M.length := by rw [HLM.out]; exact hlt
        obtain ⟨z, hz⟩ : ∃ z, M[k]? = some z := ⟨_, List.getElem?_eq_getElem hltM⟩
        have hnext : M.take (k + 1) = M.take k ++ [z] := by
          rw [List.take_succ_eq_append_getElem hltM]
          rw [List.getElem?_eq_getElem hltM] at hz
          cases hz
          rfl
        have hx : L[k]? = some (φ z) := by rw [← HMM.out, List.getElem?_map, hz]; rfl
        obtain ⟨x, y, hxy⟩ : ∃ x y, φ z = (x, y) := ⟨_, _, rfl⟩
        rw [hxy] at hx
        obtain ⟨b, off, rfl, hb, q0, q1⟩ := (HRow.out wr hks).at hx
        have hJ2 := HJ.out _ _ _ none hJs (World.grownBy_alloc wr (.cells #[.int .i64 x, .int .i64 y] 77) none) (fun r e => by cases e)
        have HE2 := Lib.hid (keptO_t hks (keptO_below (below_alloc wr (.cells #[.int .i64 x, .int .i64 y] 77))))
        have HX := Lib.hid hnext
        obtain ⟨fn, tmps, assign, body, hy, hR⟩ := HY.out (M.take k) z _ hJ2 (by rw [List.length_take]; omega)
        rw [hxy] at hy
        have HRR := Lib.hid hR
        clear hx hnext hJs hks hJ2 hR hxy hz hltM
        change (Instr.yield l #[Value.agg #[Value.int .i64 x, Value.int .i64 y]]).run Try.prog _ = _ at hy
        gi_wp2
        refine HRR.out.mono ?_
        rintro e W3 (⟨rfl, hJ3, hk3⟩ | ⟨rfl, hJx3⟩)
        · have HJ3 := Lib.hid hJ3
          have HE3 := Lib.hid (keptO_t HE2.out hk3)
          clear hJ3 hk3
          gi_wp2
          go_roundw
          case rel => exact ⟨k + 1, by omega, by go_num, by rw [HX.out]; exact HJ3.out, HE3.out⟩
          case measure => simp [intOf]; omega
        · have HJ3 := Lib.hid hJx3
          clear hJx3
          gi_wp2
          refine bodyPost_ret (results_none rfl _ _ _) rfl ?_
          exact ⟨⟨_, rfl⟩, .inr ⟨_, List.take_prefix (k + 1) M, by rw [HX.out]; exact HJ3.out⟩⟩
      · have hkl : k = L.length := by omega
        have hall : M.take k = M := List.take_of_length_le (by rw [HLM.out]; omega)
        rw [hall] at hJs
        have HJs := Lib.hid hJs
        clear hkl hall hJs hks
        gi_wp2
        go_end0
        exact ⟨⟨_, rfl⟩, .inl ⟨_, rfl, HJs.out⟩⟩
theorem all1_stops (n : Nat) (hn : 1 ≤ n) (p a n₀ : Nat) (q : Option Addr) (st en : Int) (L : List (Int × Int)) (w : World) (h : Src w a q st en L) (hp : w.cell? ⟨p, 0, none⟩ = some (.pointer q)) (hn₀ : n₀ ≤ w.heap.size) :
    SeqStopsK Fence.wide n Try.prog 54 #[.pointer (some ⟨p, 0, none⟩)] lpA (KeptO a n₀) (fun ys => ys = L) (fun pre => pre <+: L) L.length w := all1_map (fun x => x) L n hn p a n₀ q st en L w h (List.map_id' L) hp hn₀
/-- As all1_stops; the leaps are told to be the table's. -/
theorem all1_sub (n : Nat) (hn : 1 ≤ n) (p a n₀ : Nat) (q : Option Addr) (st en : Int) (L : List (Int × Int)) (w : World) (h : Src w a q st en L) (hp : w.cell? ⟨p, 0, none⟩ = some (.pointer q)) (hn₀ : n₀ ≤ w.heap.size) :
    SeqStopsK Fence.wide n Try.prog 54 #[.pointer (some ⟨p, 0, none⟩)] (fun x : {e // e ∈ L} => lpA x.1) (KeptO a n₀) (fun ys => ys = L.attach) (fun pre => pre <+: L.attach) L.attach.length w := all1_map (fun x : {e // e ∈ L} => x.1) L.attach n hn p a n₀ q st en L w h (List.attach_map_subtype_val L) hp hn₀
end Go.Proofs.Ytmmdkafkfjfgnaa

/- Package leap: Ahead, Step. -/
namespace Go.Proofs.Ytmmdkafkfjfgnaa
open Go.RowKit Go.Shelf
set_option linter.unusedVariables false
set_option linter.unusedSimpArgs false
attribute [local go_sem] Oper.semAt_some

/-- By how much TAI is ahead as a day begins. -/
def aheadL (n : Int) (L : List (Int × Int)) (d : Int) : Int := L.foldl (fun n e => if e.1 < d then n + e.2 else n) n
theorem aheadL_snoc (n : Int) (L : List (Int × Int)) (e : Int × Int) (d : Int) : aheadL n (L ++ [e]) d = if e.1 < d then aheadL n L d + e.2 else aheadL n L d := by
  unfold aheadL
  rw [List.foldl_append]
  rfl
theorem aheadL_cons (n : Int) (L : List (Int × Int)) (e : Int × Int) (d : Int) : aheadL n (e :: L) d = aheadL (if e.1 < d then n + e.2 else n) L d := rfl
/-- Steps of one second. -/
def Ones (L : List (Int × Int)) : Prop := ∀ e ∈ L, e.2 = 1 ∨ e.2 = -1
theorem aheadL_bd : ∀ (L : List (Int × Int)) (n d : Int), Ones L → n - L.length ≤ aheadL n L d ∧ aheadL n L d ≤ n + L.length
  | [], n, d, _ => by simp [aheadL]
  | e :: L, n, d, h => by
    have h0 := h e (List.mem_cons_self ..)
    have := aheadL_bd L (if e.1 < d then n + e.2 else n) d (fun x hx => h x (List.mem_cons_of_mem _ hx))
    rw [aheadL_cons]
    simp only [List.length_cons]
    split at this <;> split <;> first | omega | (exfalso; omega)
theorem ones_pre {L pre : List (Int × Int)} (h : Ones L) (hp : pre <+: L) : Ones pre := fun e he => h e (hp.subset he)
/-- By how much a day is longer. -/
def stepL (L : List (Int × Int)) (d : Int) : Int := match L.find? (fun e => decide (e.1 = d)) with
  | some e => e.2
  | none => 0
/-- Between two leaps that Ahead looks at. -/
theorem w64_add (a b : Int) : IntKind.i64.wrap (IntKind.i64.wrap a + b) = IntKind.i64.wrap (a + b) := by
  rw [IntKind.wrap_i64, IntKind.wrap_i64, IntKind.wrap_i64]
  omega
/-- Between two leaps that Ahead looks at. -/
structure ARun (w : World) (s : Nat) (d n : Int) (L pre : List (Int × Int)) (W : World) : Prop where
  at' : s = w.heap.size + 1
  day : Holds W w.heap.size 3 #[.int .i64 d]
  sec : Holds W s 3 #[.int .i64 (IntKind.i64.wrap (aheadL n pre d))]
  below : Below w.heap.size w W
theorem ARun.turned {w : World} {s : Nat} {d n : Int} {L pre : List (Int × Int)} {W W' : World} {row : Option Nat} (h : ARun w s d n L pre W) (hg : W.grownBy W' row) (hr : NoCells W row) (hb : ∀ k, row = some k → w.heap.size ≤ k) : ARun w s d n L pre W' :=
  ⟨h.at', h.day.turned hg hr, h.sec.turned hg hr, h.below.grown hg h.below.size hb⟩
theorem ahead_leaves {n : Nat} {w : World} {W : World} {tmps : Array Value} {v : Int} {D : Nat} (hb : Below w.heap.size w W)
    (hD : w.heap.size ≤ D) (hDk : W.heap[D]? = some (.deferred (some []))) (t4 : tmps.getD 4 undef = .int .i64 v) (t5 : tmps.getD 5 undef = .bool true) :
    LeavesInM Fence.wide n Try.prog Try.f45 tmps (fun e w' => e = .returned (.tuple #[.int .i64 v, .bool true]) ∧ Below w.heap.size w w') [mark D] .returning W := by
  refine leaves_marks (I := fun W => Below w.heap.size w W) (lo := w.heap.size) (hi := D + 1) (fun W D' hD' hI hd => ?_) (fun W hI => ?_) [D] W ⟨by simp, fun E hE => by
    simp only [List.mem_cons, List.not_mem_nil, or_false] at hE
    subst hE
    exact ⟨hD, Nat.lt_succ_self _, hDk⟩⟩ hb
  · have hg := grownBy_putObj' W D' (.deferred none)
    exact hI.grown hg hI.size (fun k e => by cases e; exact hD')
  · refine ⟨.tuple #[.int .i64 v, .bool true], ?_, rfl, hI⟩
    have t4' : tmps[4]?.getD undef = .int .i64 v := by simpa using t4
    have t5' : tmps[5]?.getD undef = .bool true := by simpa using t5
    simp [results, Try.f45, go_sem, t4', t5']
theorem ahead_no (w : World) (a : Nat) (p : Option Addr) (st en : Int) (L : List (Int × Int)) (d : Int) (h : Src w a p st en L) (hd : d < st ∨ en ≤ d) :
    Calls Try.prog 45 #[.pointer p, .int .i64 d] w fun e w' => e = .returned (.tuple #[.int .i64 0, .bool false]) ∧ Below w.heap.size w w' := by
  have HB := Lib.hid (below_alloc w (.cells #[.int .i64 d] 3))
  have HR := Lib.hid (range_any _ a p st en L (h.below HB.out))
  have c0 := (Holds.new w 3 #[.int .i64 d]).cell 0
  clear h
  by_cases h1 : d < st
  · have e1 : decide (d < st) = true := decide_eq_true h1
    clear hd
    go_enter Try.func45, Try.ntmps45
    go_wp2_with (go_at_call 50; refine HR.out.mono ?_; rintro e w1 ⟨rfl, n, rfl⟩)
    go_ret2
    exact ⟨rfl, below_drewN HB.out _⟩
  · have h2 : en ≤ d := by omega
    have e1 : decide (d < st) = false := decide_eq_false h1
    have e2 : decide (en ≤ d) = true := decide_eq_true h2
    clear hd
    go_enter Try.func45, Try.ntmps45
    go_wp2_with (go_at_call 50; refine HR.out.mono ?_; rintro e w1 ⟨rfl, n, rfl⟩)
    go_ret2
    exact ⟨rfl, below_drewN HB.out _⟩
set_option maxRecDepth 100000 in
set_option maxHeartbeats 4000000 in
theorem ahead_yes (w : World) (g : Nat) (T : TB) (d : Int) (h : Rt w w.heap.size g T) (h1 : T.st ≤ d) (h2 : d < T.en) (h3 : Ones T.lp) (h4 : 0 ≤ T.ah ∧ T.ah ≤ 1000) :
    Calls Try.prog 45 #[.pointer (some ⟨g, 0, none⟩), .int .i64 d] w fun e w' => e = .returned (.tuple #[.int .i64 (aheadL T.ah T.lp d), .bool true]) ∧ Below w.heap.size w w' := by
  have e1 : decide (d < T.st) = false := decide_eq_false (by omega)
  have e2 : decide (T.en ≤ d) = false := decide_eq_false (by omega)
  have HB := Lib.hid (below_alloc w (.cells #[.int .i64 d] 3))
  have HR := Lib.hid (range_any _ w.heap.size _ T.st T.en T.lp (h.src.below HB.out))
  have c0 := (Holds.new w 3 #[.int .i64 d]).cell 0
  have H := Lib.hid h
  obtain ⟨hlt, hfew, A, c, hH, _, _⟩ := h
  have c1 : (w.alloc (.cells #[.int .i64 d] 3)).cell? ⟨g, 1, none⟩ = some (.int .i64 T.ah) := (hH.alloc _).cell 1
  have HBd := Lib.hid (fun pre (hp : pre <+: T.lp) => aheadL_bd pre T.ah d (ones_pre h3 hp))
  have HLen := Lib.hid (fun pre (hp : pre <+: T.lp) => hp.length_le)
  have HOne := Lib.hid h3
  refine (callsIn_wide (n := 4)).1 ?_
  refine callsIn_of_wp_marks Try.func45 rfl trivial ?_ rfl
  simp only [Try.ntmps45, List.size_toArray, List.length_cons, List.length_nil, Nat.reduceAdd, Nat.reduceSub, Array.replicate_succ, Array.replicate_zero, List.push_toArray, List.append_toArray, List.nil_append, List.cons_append]
  clear hH h3 hlt
  have hb1 : ∀ w1, (∃ n, w1 = (w.alloc (.cells #[.int .i64 d] 3)).drewN n) → w1.heap.size = w.heap.size + 1 ∧ Below w.heap.size w w1 ∧ w1.cell? ⟨w.heap.size, 0, none⟩ = some (.int .i64 d) ∧ w1.cell? ⟨g, 1, none⟩ = some (.int .i64 T.ah) ∧ Holds w1 w.heap.size 3 #[.int .i64 d] := by
    rintro w1 ⟨n, rfl⟩
    exact ⟨size_alloc w _, below_drewN HB.out _, c0, c1, Holds.new w _ _⟩
  have HB1 := Lib.hid hb1
  clear hb1
  gi_wp2_with (first
    | (refine ⟨trivial, ?_⟩; gi_at_call 50; refine (callsIn_wide.2 HR.out).mono ?_; rintro e w1 ⟨rfl, hn⟩; have HN := Lib.hid (HB1.out w1 hn); obtain ⟨-, -, c2, c3, -⟩ := HN.out; clear hn c0 c1)
    | (refine ⟨trivial, ?_⟩; gi_at_call 51; refine (callsIn_wide.2 (all_any _ _)).mono ?_; rintro e w' ⟨rfl, rfl⟩))
  obtain ⟨hs1, hb1, _, _, hh1⟩ := HN.out
  have sR : ((w1.alloc (.cells #[.int .i64 T.ah] 3)).alloc (.cells #[.pointer (some ⟨g, 0, none⟩)] 27)).heap.size = w.heap.size + 3 := by simp [hs1]
  have b0 : ARun w (w.heap.size + 1) d T.ah T.lp [] ((w1.alloc (.cells #[.int .i64 T.ah] 3)).alloc (.cells #[.pointer (some ⟨g, 0, none⟩)] 27)) :=
    ⟨rfl, (hh1.alloc _).alloc _, (by rw [show IntKind.i64.wrap (aheadL T.ah [] d) = T.ah from IntWalk.i64_in _ (by show _ ∧ _; unfold aheadL; simp only [List.foldl_nil]; omega)]; rw [← hs1]; exact (Holds.new w1 _ _).alloc _), (hb1.alloc (by omega) _).alloc (by simp; omega) _⟩
  have cR := (Holds.new (w1.alloc (.cells #[.int .i64 T.ah] 3)) 27 #[.pointer (some ⟨g, 0, none⟩)]).cell 0
  rw [size_alloc, hs1] at cR
  have hS := H.out.below b0.below
  obtain ⟨WR, hWR⟩ : ∃ WR, ((w1.alloc (.cells #[.int .i64 T.ah] 3)).alloc (.cells #[.pointer (some ⟨g, 0, none⟩)] 27)) = WR := ⟨_, rfl⟩
  rw [hWR] at b0 cR sR hS
  simp only [hWR]
  simp only [hs1]
  clear hWR hh1 hb1
  refine range_boxed rfl (by omega) (gf := 54) (lb := #[.pointer (some ⟨w.heap.size + 1 + 1, 0, none⟩)]) rfl trivial (enters_of Try.func54 (by kernel_rfl) rfl)
    (all1_stops _ (by omega) (w.heap.size + 1 + 1) w.heap.size (w.heap.size + 3) _ T.st T.en T.lp WR hS.src cR (by omega)) keptO_t (fun W l o o' _ h hc hw => keptO_b W l o o' h hc hw) (fun _ _ h => keptO_below h) (Below.refl _ _) (fun _ => rfl)
    (fun (pre : List (Int × Int)) W => ARun w (w.heap.size + 1) d T.ah T.lp pre W)
    (fun c pre W => False)
    (fun s W W' row hs hg hr => hs.turned hg (fun k e => (hr k e).2) (fun k e => by have := (hr k e).1; omega))
    (fun c s W W' row hs hg hr => hs)
    b0 77 (fun x => #[.int .i64 x.1, .int .i64 x.2]) ?a₁ ?assign ?body ?done ?stop
  case assign =>
    intro l y b W K hb hK
    simp only [lpA]
    have HB := Lib.hid hb
    clear hb
    gi_wp2
    simp only [HB.out]
    exact hK
  case body =>
    rintro l pre y q W hl ⟨rc, hrc⟩ hrn he hlen
    obtain ⟨x, y⟩ := y
    dsimp only at he ⊢
    have c0 := hrn.day.cell 0
    have c1 := hrn.sec.cell 0
    have f1 := hrn.sec.soft 0
    have e0 := he.cell 0
    have e1' := he.cell 1
    have hat := hrn.at'
    have hsn := aheadL_snoc T.ah pre (x, y) d
    dsimp only at hsn
    by_cases hx : x < d
    · rw [if_pos hx] at hsn
      have hw := w64_add (aheadL T.ah pre d) y
      rw [← hsn] at hw
      have hch := Chg.set (S := fun k => k = w.heap.size + 1) W (w.heap.size + 1) 0 (.int .i64 (IntKind.i64.wrap (aheadL T.ah (pre ++ [(x, y)]) d))) rfl
      have HR := Lib.hid (show ARun w (w.heap.size + 1) d T.ah T.lp (pre ++ [(x, y)]) (W.setCell ⟨w.heap.size + 1, 0, none⟩ (.int .i64 (IntKind.i64.wrap (aheadL T.ah (pre ++ [(x, y)]) d)))) from
        ⟨hat, hrn.day.far (by omega) _, hrn.sec.put 0 _, hrn.below.setCell (p := ⟨w.heap.size + 1, 0, none⟩) (by dsimp only; omega) _⟩)
      have HK := Lib.hid (keptO_chg (a := w.heap.size) (n := w.heap.size + 3) hch (fun k hk => by omega))
      have HO := Lib.hid (show KeepsFrom WR.heap.size W _ from (others_of_chg hch (fun k e => by subst e; exact ⟨_, _, _, hrn.sec⟩)).from _)
      obtain ⟨M, hM⟩ : ∃ M, IntKind.i64.wrap (aheadL T.ah (pre ++ [(x, y)]) d) = M := ⟨_, rfl⟩
      obtain ⟨K, hK⟩ : ∃ M, IntKind.i64.wrap (aheadL T.ah pre d) = M := ⟨_, rfl⟩
      rw [hM] at HR HK HO hw
      rw [hK] at c1 hw
      clear hrn hch hsn hM hK he hat
      gi_wp2
      exact ⟨HO.out, HK.out, HR.out⟩
    · rw [if_neg hx] at hsn
      have dx : decide (x < d) = false := decide_eq_false hx
      have HR := Lib.hid (show ARun w (w.heap.size + 1) d T.ah T.lp (pre ++ [(x, y)]) W from ⟨hat, hrn.day, by rw [hsn]; exact hrn.sec, hrn.below⟩)
      have HK := Lib.hid (keptO_below (a := w.heap.size) (n := w.heap.size + 3) (Below.refl W.heap.size W))
      have HO := Lib.hid (show KeepsFrom WR.heap.size W W from (others_of_below (Below.refl W.heap.size W)).from _)
      obtain ⟨K, hK⟩ : ∃ M, IntKind.i64.wrap (aheadL T.ah pre d) = M := ⟨_, rfl⟩
      rw [hK] at c1
      clear hrn hsn hK he hat hx
      gi_wp2
      exact ⟨HO.out, HK.out, HR.out⟩
  case done =>
    rintro D ys W hD rfl hrn hDk
    have c1 := hrn.sec.cell 0
    have hB := hrn.below
    have hv : IntKind.i64.wrap (aheadL T.ah T.lp d) = aheadL T.ah T.lp d := IntWalk.i64_in _ (by have := HBd.out T.lp (List.prefix_refl _); omega)
    rw [hv] at c1
    clear hrn hv
    gi_wp2
    exact ahead_leaves hB (by omega) hDk rfl rfl
  case stop =>
    rintro D c pre W hD hpre hf hDk
    exact hf.elim
end Go.Proofs.Ytmmdkafkfjfgnaa

/- Package leap: Step. -/
namespace Go.Proofs.Ytmmdkafkfjfgnaa
open Go.RowKit Go.Shelf
set_option linter.unusedVariables false
set_option linter.unusedSimpArgs false
attribute [local go_sem] Oper.semAt_some

theorem stepL_none {L : List (Int × Int)} {d : Int} (h : ∀ e ∈ L, ¬ e.1 = d) : stepL L d = 0 := by
  unfold stepL
  rw [List.find?_eq_none.2 (fun e he => by simpa using h e he)]
theorem stepL_hit {L pre : List (Int × Int)} {d y : Int} (hp : pre ++ [(d, y)] <+: L) (h : ∀ e ∈ pre, ¬ e.1 = d) : stepL L d = y := by
  obtain ⟨r, rfl⟩ := hp
  unfold stepL
  rw [List.append_assoc, List.find?_append, List.find?_eq_none.2 (fun e he => by simpa using h e he)]
  simp
theorem stepL_cons (e : Int × Int) (L : List (Int × Int)) (d : Int) : stepL (e :: L) d = if e.1 = d then e.2 else stepL L d := by
  unfold stepL
  rw [List.find?_cons]
  by_cases h : e.1 = d
  · simp [h]
  · simp [h]
/-- Between two leaps that Step looks at. -/
structure QRun (w : World) (d : Int) (pre : List (Int × Int)) (W : World) : Prop where
  none : ∀ e ∈ pre, ¬ e.1 = d
  day : Holds W w.heap.size 3 #[.int .i64 d]
  res : Holds W (w.heap.size + 1) 3 #[.int .i64 0]
  below : Below w.heap.size w W
theorem QRun.turned {w : World} {d : Int} {pre : List (Int × Int)} {W W' : World} {row : Option Nat} (h : QRun w d pre W) (hg : W.grownBy W' row) (hr : NoCells W row) (hb : ∀ k, row = some k → w.heap.size ≤ k) : QRun w d pre W' :=
  ⟨h.none, h.day.turned hg hr, h.res.turned hg hr, h.below.grown hg h.below.size hb⟩
/-- A leap of the day was found. -/
structure QOut (w : World) (d : Int) (L pre : List (Int × Int)) (W : World) : Prop where
  res : Holds W (w.heap.size + 1) 3 #[.int .i64 (stepL pre d)]
  hit : pre <+: L → stepL L d = stepL pre d
  below : Below w.heap.size w W
theorem QOut.turned {w : World} {d : Int} {L pre : List (Int × Int)} {W W' : World} {row : Option Nat} (h : QOut w d L pre W) (hg : W.grownBy W' row) (hr : NoCells W row) (hb : ∀ k, row = some k → w.heap.size ≤ k) : QOut w d L pre W' :=
  ⟨h.res.turned hg hr, h.hit, h.below.grown hg h.below.size hb⟩
theorem step_leaves {n : Nat} {w : World} {W : World} {tmps : Array Value} {v : Int} {D : Nat} (h2 : Holds W (w.heap.size + 1) 3 #[.int .i64 v]) (hb : Below w.heap.size w W)
    (hD : w.heap.size ≤ D) (hDk : W.heap[D]? = some (.deferred (some []))) (t4 : tmps.getD 4 undef = .pointer (some ⟨w.heap.size + 1, 0, none⟩)) :
    LeavesInM Fence.wide n Try.prog Try.f46 tmps (fun e w' => e = .returned (.int .i64 v) ∧ Below w.heap.size w w') [mark D] .returning W := by
  refine leaves_marks (I := fun W => Holds W (w.heap.size + 1) 3 #[.int .i64 v] ∧ Below w.heap.size w W) (lo := w.heap.size) (hi := D + 1) (fun W D' hD' hI hd => ?_) (fun W hI => ?_) [D] W ⟨by simp, fun E hE => by
    simp only [List.mem_cons, List.not_mem_nil, or_false] at hE
    subst hE
    exact ⟨hD, Nat.lt_succ_self _, hDk⟩⟩ ⟨h2, hb⟩
  · have hg := grownBy_putObj' W D' (.deferred none)
    exact ⟨hI.1.turned hg (fun k e => by cases e; exact ⟨_, hd, rfl⟩), hI.2.grown hg hI.2.size (fun k e => by cases e; exact hD')⟩
  · refine ⟨.int .i64 v, ?_, rfl, hI.2⟩
    have c2 := hI.1.cell 0
    have t4' : tmps[4]?.getD undef = .pointer (some ⟨w.heap.size + 1, 0, none⟩) := by simpa using t4
    simp [results, Try.f46, go_sem, c2, t4']
set_option maxRecDepth 100000 in
set_option maxHeartbeats 4000000 in
theorem step_any (w : World) (p : Option Addr) (st en : Int) (L : List (Int × Int)) (d : Int) (h : Src w w.heap.size p st en L) :
    Calls Try.prog 46 #[.pointer p, .int .i64 d] w fun e w' => e = .returned (.int .i64 (stepL L d)) ∧ Below w.heap.size w w' := by
  have H := Lib.hid h
  clear h
  refine (callsIn_wide (n := 4)).1 ?_
  refine callsIn_of_wp_marks Try.func46 rfl trivial ?_ rfl
  simp only [Try.ntmps46, List.size_toArray, List.length_cons, List.length_nil, Nat.reduceAdd, Nat.reduceSub, Array.replicate_succ, Array.replicate_zero, List.push_toArray, List.append_toArray, List.nil_append, List.cons_append]
  gi_wp2_with (refine ⟨trivial, ?_⟩; gi_at_call 51; refine (callsIn_wide.2 (all_any _ _)).mono ?_; rintro e w' ⟨rfl, rfl⟩)
  have sR : (((w.alloc (.cells #[.int .i64 d] 3)).alloc (.cells #[.int .i64 0] 3)).alloc (.cells #[.pointer p] 27)).heap.size = w.heap.size + 3 := by simp
  have b0 : QRun w d [] (((w.alloc (.cells #[.int .i64 d] 3)).alloc (.cells #[.int .i64 0] 3)).alloc (.cells #[.pointer p] 27)) := by
    refine ⟨by simp, ((Holds.new w _ _).alloc _).alloc _, ?_, ((below_alloc w _).alloc (by simp) _).alloc (by simp; omega) _⟩
    have := (Holds.new (w.alloc (.cells #[.int .i64 d] 3)) 3 #[.int .i64 0]).alloc (.cells #[.pointer p] 27)
    rwa [size_alloc] at this
  have cR := (Holds.new ((w.alloc (.cells #[.int .i64 d] 3)).alloc (.cells #[.int .i64 0] 3)) 27 #[.pointer p]).cell 0
  rw [size_alloc, size_alloc] at cR
  have hS := H.out.below b0.below
  obtain ⟨WR, hWR⟩ : ∃ WR, (((w.alloc (.cells #[.int .i64 d] 3)).alloc (.cells #[.int .i64 0] 3)).alloc (.cells #[.pointer p] 27)) = WR := ⟨_, rfl⟩
  rw [hWR] at b0 cR sR hS
  simp only [hWR]
  clear hWR
  refine range_boxed rfl (by omega) (gf := 54) (lb := #[.pointer (some ⟨w.heap.size + 1 + 1, 0, none⟩)]) rfl trivial (enters_of Try.func54 (by kernel_rfl) rfl)
    (all1_stops _ (by omega) (w.heap.size + 1 + 1) w.heap.size (w.heap.size + 3) _ st en L WR hS cR (by omega)) keptO_t (fun W l o o' _ h hc hw => keptO_b W l o o' h hc hw) (fun _ _ h => keptO_below h) (Below.refl _ _) (fun _ => rfl)
    (fun (pre : List (Int × Int)) W => QRun w d pre W)
    (fun c pre W => c = .ret ∧ QOut w d L pre W)
    (fun s W W' row hs hg hr => hs.turned hg (fun k e => (hr k e).2) (fun k e => by have := (hr k e).1; omega))
    (fun c s W W' row hs hg hr => ⟨hs.1, hs.2.turned hg (fun k e => (hr k e).2) (fun k e => by have := (hr k e).1; omega)⟩)
    b0 77 (fun x => #[.int .i64 x.1, .int .i64 x.2]) ?a₁ ?assign ?body ?done ?stop
  case assign =>
    intro l y b W K hb hK
    simp only [lpA]
    have HB := Lib.hid hb
    clear hb
    gi_wp2
    simp only [HB.out]
    exact hK
  case body =>
    rintro l pre y q W hl ⟨rc, hrc⟩ hrn he hlen
    obtain ⟨x, y⟩ := y
    dsimp only at he ⊢
    have c0 := hrn.day.cell 0
    have c1 := hrn.res.cell 0
    have f1 := hrn.res.soft 0
    have e0 := he.cell 0
    have e1' := he.cell 1
    by_cases hx : x = d
    · subst hx
      have hs : stepL (pre ++ [(x, y)]) x = y := stepL_hit (List.prefix_refl _) hrn.none
      have hch := Chg.set (S := fun k => k = w.heap.size + 1) W (w.heap.size + 1) 0 (.int .i64 y) rfl
      have HR := Lib.hid (show QOut w x L (pre ++ [(x, y)]) (W.setCell ⟨w.heap.size + 1, 0, none⟩ (.int .i64 y)) from
        ⟨by rw [hs]; exact hrn.res.put 0 _, fun hp => by rw [hs]; exact stepL_hit hp hrn.none, hrn.below.setCell (p := ⟨w.heap.size + 1, 0, none⟩) (by dsimp only; omega) _⟩)
      have HO := Lib.hid (show KeepsFrom WR.heap.size W _ from (others_of_chg hch (fun k e => by subst e; exact ⟨_, _, _, hrn.res⟩)).from _)
      clear hrn hch hs he
      gi_wp2
      exact ⟨HO.out, rfl, HR.out⟩
    · have hb := beq_no hx
      have HR := Lib.hid (show QRun w d (pre ++ [(x, y)]) W from ⟨fun e he => by
        rcases List.mem_append.1 he with h | h
        · exact hrn.none e h
        · simp only [List.mem_singleton] at h
          subst h
          exact hx, hrn.day, hrn.res, hrn.below⟩)
      have HK := Lib.hid (keptO_below (a := w.heap.size) (n := w.heap.size + 3) (Below.refl W.heap.size W))
      have HO := Lib.hid (show KeepsFrom WR.heap.size W W from (others_of_below (Below.refl W.heap.size W)).from _)
      clear hrn he
      gi_wp2
      exact ⟨HO.out, HK.out, HR.out⟩
  case done =>
    rintro D ys W hD rfl hrn hDk
    have c1 := hrn.res.cell 0
    have f1 := hrn.res.soft 0
    have HV := Lib.hid (stepL_none hrn.none)
    have HP := Lib.hid (show Holds (W.setCell ⟨w.heap.size + 1, 0, none⟩ (.int .i64 0)) (w.heap.size + 1) 3 #[.int .i64 (stepL ys d)] by rw [HV.out]; exact hrn.res.put 0 _)
    have HB := Lib.hid (hrn.below.setCell (p := ⟨w.heap.size + 1, 0, none⟩) (by show w.heap.size ≤ w.heap.size + 1; omega) (.int .i64 0))
    have HD := Lib.hid ((KeepsOthers.setCell W ⟨w.heap.size + 1, 0, none⟩ (.int .i64 0)).same D _ hDk rfl)
    clear hrn hDk
    gi_wp2
    exact step_leaves HP.out HB.out (by omega) HD.out rfl
  case stop =>
    rintro D c pre W hD hpre ⟨rfl, hout⟩ hDk
    have hs := hout.hit hpre
    have HP := Lib.hid (show Holds W (w.heap.size + 1) 3 #[.int .i64 (stepL L d)] by rw [hs]; exact hout.res)
    have HB := Lib.hid hout.below
    clear hout hs
    gi_wp2
    exact step_leaves HP.out HB.out (by omega) hDk rfl
end Go.Proofs.Ytmmdkafkfjfgnaa

/- Package leap: the document's Ahead, Step. -/
namespace Go.Proofs.Ytmmdkafkfjfgnaa
open Go.RowKit Go.Shelf
set_option linter.unusedVariables false
set_option linter.unusedSimpArgs false
attribute [local go_sem] Oper.semAt_some

theorem aheadL_far {L : List (Int × Int)} {d : Int} (h : ∀ e ∈ L, d ≤ e.1) (n : Int) : aheadL n L d = n := by
  induction L generalizing n with
  | nil => rfl
  | cons e L ih =>
    have h0 := h e (List.mem_cons_self ..)
    rw [aheadL_cons, if_neg (by omega)]
    exact ih (fun x hx => h x (List.mem_cons_of_mem _ hx)) n
/-- From one day to the next TAI goes ahead by the day's step. -/
theorem aheadL_next : ∀ (L : List (Int × Int)) (n d : Int), (L.Pairwise fun a b => a.1 < b.1) → aheadL n L (d + 1) = aheadL n L d + stepL L d
  | [], n, d, _ => by simp [aheadL, stepL]
  | e :: L, n, d, h => by
    obtain ⟨h1, h2⟩ := List.pairwise_cons.1 h
    rw [aheadL_cons, aheadL_cons, stepL_cons]
    by_cases k1 : e.1 < d
    · rw [if_pos (show e.1 < d + 1 by omega), if_pos k1, if_neg (show ¬ e.1 = d by omega)]
      exact aheadL_next L _ d h2
    · by_cases k2 : e.1 = d
      · rw [if_pos (show e.1 < d + 1 by omega), if_neg k1, if_pos k2, aheadL_far (fun x hx => by have := h1 x hx; omega), aheadL_far (fun x hx => by have := h1 x hx; omega)]
      · rw [if_neg (show ¬ e.1 < d + 1 by omega), if_neg k1, if_neg k2]
        exact aheadL_next L n d h2
theorem stepL_mem {L : List (Int × Int)} {d : Int} (h : Ones L) : stepL L d = 0 ∨ stepL L d = 1 ∨ stepL L d = -1 := by
  unfold stepL
  split
  · rename_i e he
    exact .inr (h e (List.mem_of_find?_eq_some he))
  · exact .inl rfl
/-- A table as the document has it: its own copy, boxed. -/
def tbCells (st ah en : Int) (A : Option Addr) (n c : Nat) : Array Value := #[.int .i64 st, .int .i64 ah, .int .i64 en, .slice A n c]
end Go.Proofs.Ytmmdkafkfjfgnaa

/- Package leap: the line of a leap. -/
namespace Go.Proofs.Ytmmdkafkfjfgnaa
open Go.RowKit
set_option linter.unusedSimpArgs false
set_option linter.unusedVariables false

theorem leap_info : (Try.prog.info? 77).map (fun i => (i.zero, i.size, i.bytes)) = some (some (.agg #[.int .i64 0, .int .i64 0]), 2, 16) := by kernel_rfl
/-- One more leap: the row's append, and the store of the slice. -/
theorem Tl.push {w : World} {B q : Nat} {T : TB} (h : Tl w B q T) (hn : T.lp.length ≤ 1000) (hB : B ≤ w.heap.size) {b : Nat} {te : TypeId} {x y : Int} (hy : Holds w b te #[.int .i64 x, .int .i64 y]) :
    ∃ A c, Holds w q 104 #[.int .i64 T.st, .int .i64 T.ah, .int .i64 T.en, .slice A T.lp.length c] ∧ ∃ A' c' w2, (Builtin.append_ #[74, 74] 74 #[.slice A T.lp.length c, .slice (some ⟨b, 0, none⟩) 1 1]).run Try.prog w = .ok (.slice A' (T.lp.length + 1) c') w2 ∧
      Holds w2 q 104 #[.int .i64 T.st, .int .i64 T.ah, .int .i64 T.en, .slice A T.lp.length c] ∧ Tl (w2.setCell ⟨q, 3, none⟩ (.slice A' (T.lp.length + 1) c')) B q ⟨T.st, T.ah, T.en, T.lp ++ [(x, y)]⟩ ∧
      Chg (fun k => (Value.slice A T.lp.length c).ownBlock = some k) w w2 ∧ w.ownsRow B 77 2 (.slice A T.lp.length c) T.lp.length (prs T.lp) := by
  obtain ⟨hBq, A, c, hH, hO⟩ := h
  obtain ⟨i, hi, hzz⟩ := Option.map_eq_some_iff.1 leap_info
  simp only [Prod.mk.injEq] at hzz
  obtain ⟨hz, hs, hby⟩ := hzz
  obtain ⟨A', c', w2, hrun, ho2, hg2, _⟩ := run_append_rowK (P := Try.prog) w B 74 74 77 i _ 2 16 Try.underlying74 hi hz hs hby rfl (by omega) _ T.lp.length _ hO ⟨b, 0, none⟩ 1 1 (prs [(x, y)]) rfl (fun j u hj => by
    rw [Go.WideShapes.add_plain, Nat.zero_add, hy.cell, List.getElem?_toArray]
    exact hj) (prs_one _) (by unfold maxLen; omega) (by omega) hB
  have hC := Chg.of_grown (S := fun k => (Value.slice A T.lp.length c).ownBlock = some k) hg2 (fun k hk => hk)
  have hne := hH.own_apart hO (by decide)
  have hH2 := hH.chg hC hne
  have hne2 := hH2.own_apart ho2 (by decide)
  have hlen : (T.lp ++ [(x, y)]).length = T.lp.length + 1 := by simp
  refine ⟨A, c, hH, A', c', w2, hrun, hH2, ⟨hBq, A', c', ?_, ?_⟩, hC, hO⟩
  · rw [hlen]
    exact hH2.put 3 _
  · rw [hlen, prs_append]
    exact own_chg ho2 (Chg.set w2 q 3 _ (S := fun k => k = q) rfl) (fun z hz e => hne2 (by rw [← e]; exact hz))
/-- What a leap's words tell. -/
theorem leapR_bad {T : TB} {ws : List ByteArray} (h : ¬ (ws.length = 3 ∧ ws.head? = some leapB)) : leapR T ws = .error 3 := by
  unfold leapR
  split
  · rw [if_neg]
    rintro rfl
    exact h ⟨rfl, rfl⟩
  · rfl
theorem leapR_three (T : TB) (b c : ByteArray) : leapR T [leapB, b, c] = match dayOf b, stepOf c with
      | some d, some n => if 64 ≤ T.lp.length then .error 6 else if takesB T.st T.lp d then .ok ⟨T.st, T.ah, T.en, T.lp ++ [(d, n)]⟩ else .error 12
      | _, _ => .error 3 := by
  unfold leapR
  exact if_pos rfl
theorem pair_info : (Try.prog.info? 77).map (·.size) = some 2 := by kernel_rfl
theorem Box.named {w0 w : World} {t : TypeId} {cs : Array Value} (h : Box w0 t cs w) : ∃ b W, w0.heap.size = b ∧ w = W ∧ Holds W b t cs := ⟨_, _, rfl, rfl, h.holds⟩
theorem splice_pair (a b c d : Value) : splice [a, b] 0 [c, d] = [c, d] := splice_all _ _ rfl
theorem Box.all {w0 w : World} {t : TypeId} {cs : Array Value} (h : Box w0 t cs w) (cs' : Array Value) : Box w0 t cs' (w.setRow w0.heap.size cs') := ⟨h.holds.row cs', h.below.grown (grown_row w _ _) h.below.size (fun k e => by cases e; exact Nat.le_refl _)⟩
theorem Box.put {w0 w : World} {t : TypeId} {cs : Array Value} (h : Box w0 t cs w) (i : Nat) (v : Value) : Box w0 t (cs.setIfInBounds i v) (w.setCell ⟨w0.heap.size, i, none⟩ v) := ⟨h.holds.put i v, h.below.setCell (Nat.le_refl _) _⟩
theorem Box.pair {w0 w : World} {t : TypeId} {a b : Value} (h : Box w0 t #[a, b] w) : w.cell? ⟨w0.heap.size, 0, none⟩ = some a ∧ w.cell? ⟨w0.heap.size, 1, none⟩ = some b ∧ w.frozen? ⟨w0.heap.size, 0, none⟩ = false ∧ w.frozen? ⟨w0.heap.size, 1, none⟩ = false := ⟨h.holds.cell 0, h.holds.cell 1, h.holds.soft 0, h.holds.soft 1⟩
end Go.Proofs.Ytmmdkafkfjfgnaa

/- Package leap: Make. -/
namespace Go.Proofs.Ytmmdkafkfjfgnaa
open Go.RowKit
set_option linter.unusedVariables false
set_option linter.unusedSimpArgs false

/-- Can such a table be, but for its leaps? -/
structure FineR (st ah en : Int) : Prop where
  s1 : -719162 ≤ st
  s2 : st ≤ 2932896
  e1 : -719162 ≤ en
  e2 : en ≤ 2932896
  lt : st < en
  a1 : 0 ≤ ah
  a2 : ah ≤ 99
/-- Do leaps' days rise strictly, from start on, below end? -/
def OrdL (st en : Int) (L : List (Int × Int)) : Prop := (∀ e ∈ L, st ≤ e.1 ∧ e.1 < en) ∧ L.Pairwise fun a b => a.1 < b.1
open Classical in
/-- The error's number of a table. -/
noncomputable def faultT (st ah en : Int) (L : List (Int × Int)) : Int := if ¬ FineR st ah en then 1 else if ¬ Ones L then 1 else if 64 < L.length then 6 else if ¬ OrdL st en L then 12 else 0
theorem ord_nil (st en : Int) : OrdL st en [] := ⟨by simp, .nil⟩
theorem ord_pre {st en : Int} {L M : List (Int × Int)} (h : OrdL st en L) (hp : M <+: L) : OrdL st en M := ⟨fun e he => h.1 e (hp.subset he), h.2.sublist hp.sublist⟩
theorem takes_iff {st en : Int} {M : List (Int × Int)} (h : OrdL st en M) (d : Int) : takesB st M d = true ↔ st ≤ d ∧ ∀ e ∈ M, e.1 < d := by
  rcases List.eq_nil_or_concat M with rfl | ⟨N, x, hM⟩
  · rw [takes_nil, decide_eq_true_iff]
    simp
  · rw [List.concat_eq_append] at hM
    subst hM
    rw [takes_snoc, decide_eq_true_iff]
    have hx := h.1 x (by simp)
    constructor
    · intro hd
      refine ⟨by omega, fun e he => ?_⟩
      rcases List.mem_append.1 he with h1 | h1
      · have := (List.pairwise_append.1 h.2).2.2 e h1 x (by simp)
        omega
      · simp only [List.mem_singleton] at h1
        subst h1
        exact hd
    · intro hd
      exact hd.2 x (by simp)
theorem ord_snoc {st en : Int} {M : List (Int × Int)} (h : OrdL st en M) (d s : Int) : OrdL st en (M ++ [(d, s)]) ↔ takesB st M d = true ∧ d < en := by
  rw [takes_iff h]
  constructor
  · intro k
    have := k.1 (d, s) (by simp)
    exact ⟨⟨this.1, fun e he => (List.pairwise_append.1 k.2).2.2 e he (d, s) (by simp)⟩, this.2⟩
  · rintro ⟨⟨k1, k2⟩, k3⟩
    refine ⟨fun e he => ?_, List.pairwise_append.2 ⟨h.2, List.pairwise_singleton .., fun a ha b hb => ?_⟩⟩
    · rcases List.mem_append.1 he with h1 | h1
      · exact h.1 e h1
      · simp only [List.mem_singleton] at h1
        subst h1
        exact ⟨k1, k3⟩
    · simp only [List.mem_singleton] at hb
      subst hb
      exact k2 a ha
theorem isday_any (n : Int) (w : World) : Calls Try.prog 37 #[.int .i64 n] w fun e w' => e = .returned (.bool (decide (-719162 ≤ n ∧ n ≤ 2932896))) ∧ w' = w := by
  by_cases h1 : -719162 ≤ n
  · have d1 : decide (-719162 ≤ n) = true := decide_eq_true h1
    by_cases h2 : n ≤ 2932896
    · have d2 : decide (n ≤ 2932896) = true := decide_eq_true h2
      rw [decide_eq_true (And.intro h1 h2)]
      go_enter Try.func37, Try.ntmps37
      go_wp2
      go_ret
      exact ⟨rfl, rfl⟩
    · have d2 : decide (n ≤ 2932896) = false := decide_eq_false h2
      rw [decide_eq_false (fun h => h2 h.2)]
      go_enter Try.func37, Try.ntmps37
      go_wp2
      go_ret
      exact ⟨rfl, rfl⟩
  · have d1 : decide (-719162 ≤ n) = false := decide_eq_false h1
    rw [decide_eq_false (fun h => h1 h.1)]
    go_enter Try.func37, Try.ntmps37
    go_wp2
    go_ret
    exact ⟨rfl, rfl⟩
/-- Is a Step none that may be? -/
def badB (y : Int) : Bool := y != 1 && y != -1
theorem bad_iff {y : Int} : badB y = true ↔ ¬ (y = 1 ∨ y = -1) := by
  unfold badB
  by_cases h1 : y = 1
  · simp [h1]
  · by_cases h2 : y = -1
    · simp [h2]
    · simp [h1, h2]
theorem make1_any (x y : Int) (w : World) : Calls Try.prog 39 #[.agg #[.int .i64 x, .int .i64 y]] w fun e w' => e = .returned (.bool (badB y)) ∧ Below w.heap.size w w' := by
  have HB := Lib.hid (Box.start w 77 #[.int .i64 x, .int .i64 y])
  have c1 := HB.out.holds.cell 1
  cases h1 : (y != 1) with
  | false =>
    have HV := Lib.hid (show badB y = false by unfold badB; rw [h1]; rfl)
    go_enter Try.func39, Try.ntmps39
    go_wp2
    go_ret
    exact ⟨ret_bool HV.out.symm, HB.out.below⟩
  | true =>
    have HV := Lib.hid (show badB y = (y != -1) by unfold badB; rw [h1]; rfl)
    go_enter Try.func39, Try.ntmps39
    go_wp2
    go_ret
    exact ⟨ret_bool HV.out.symm, HB.out.below⟩
theorem index_any' (w : World) (A : Option Addr) (n c : Nat) (L : List (Int × Int)) (h : PRow w A n c L) :
    Calls Try.prog 48 #[.slice A n c, .func (.func 39) #[] #[]] w fun e w' => ((Ones L ∧ e = .returned (.int .i64 (-1))) ∨ (¬ Ones L ∧ ∃ k : Nat, e = .returned (.int .i64 (k : Int)))) ∧ Below w.heap.size w w' := by
  have H := Lib.hid h
  have hn := h.len
  have hcap := h.cap_le
  have hmax := h.max
  unfold maxLen at hmax
  clear h
  go_enter Try.func48, Try.ntmps48
  go_wp2
  go_loopw [8] (fun i wr => ∃ k : Nat, k ≤ n ∧ i = .int .i64 (k : Int) ∧ Ones (L.take k) ∧ Below w.heap.size w wr) (fun i _ => n - (intOf i).toNat)
  case atStart => exact ⟨0, Nat.zero_le _, rfl, by simp [Ones], Below.refl _ _⟩
  case round =>
    obtain ⟨k, hk, rfl, ho, hb⟩ := hrel
    have HO := Lib.hid ho
    by_cases hlt : k < n
    · obtain ⟨e, he⟩ : ∃ x, L[k]? = some x := ⟨_, List.getElem?_eq_getElem (by omega)⟩
      obtain ⟨x, y⟩ := e
      obtain ⟨b, off, rfl, hbl, q0, q1⟩ := (H.out.below hb).at he
      have HE := Lib.hid he
      have hltI : (k : Int) < (n : Int) := by omega
      have ew := IntWalk.i64_in ((k : Int) + 1) (by omega)
      have HM := Lib.hid (make1_any x y wr)
      have HB := Lib.hid hb
      clear he ho hb
      cases hy : badB y with
      | true =>
        have HN := Lib.hid (show ¬ Ones L from fun h => bad_iff.1 hy (h (x, y) (List.mem_of_getElem? HE.out)))
        rw [hy] at HM
        clear hy
        go_wp2_with (go_at_call 39; refine HM.out.mono ?_; rintro e w1 ⟨rfl, hb1⟩)
        go_ret
        exact ⟨.inr ⟨HN.out, k, rfl⟩, HB.out.trans (hb1.mono HB.out.size)⟩
      | false =>
        have HN := Lib.hid (show Ones (L.take (k + 1)) from fun e he => by
          obtain ⟨hk', e'⟩ := List.getElem?_eq_some_iff.1 HE.out
          rw [List.take_succ_eq_append_getElem hk', e'] at he
          rcases List.mem_append.1 he with h | h
          · exact HO.out e h
          · simp only [List.mem_singleton] at h
            subst h
            exact Classical.byContradiction fun hn => by
              have := bad_iff.2 hn
              rw [hy] at this
              cases this)
        rw [hy] at HM
        clear hy
        go_wp2_with (go_at_call 39; refine HM.out.mono ?_; rintro e w1 ⟨rfl, hb1⟩)
        go_roundw
        case rel => exact ⟨k + 1, by omega, by go_num, HN.out, HB.out.trans (hb1.mono HB.out.size)⟩
        case measure => simp [intOf]; omega
    · have HN := Lib.hid (show Ones L by have := HO.out; rwa [List.take_of_length_le (by omega)] at this)
      have HB := Lib.hid hb
      have hltI : decide ((k : Int) < (n : Int)) = false := decide_eq_false (by omega)
      clear ho hb
      go_wp2
      go_ret
      exact ⟨.inl ⟨HN.out, rfl⟩, HB.out⟩
theorem contains_any (w : World) (A : Option Addr) (n c : Nat) (L : List (Int × Int)) (h : PRow w A n c L) :
    Calls Try.prog 38 #[.slice A n c, .func (.func 39) #[] #[]] w fun e w' => ((Ones L ∧ e = .returned (.bool false)) ∨ (¬ Ones L ∧ e = .returned (.bool true))) ∧ Below w.heap.size w w' := by
  have HI := Lib.hid (index_any' w A n c L h)
  clear h
  by_cases ho : Ones L
  · go_enter Try.func38, Try.ntmps38
    go_wp2_with (go_at_call 48; refine HI.out.mono ?_; intro e w1 hp; obtain ⟨rfl, hb⟩ : e = .returned (.int .i64 (-1)) ∧ Below w.heap.size w w1 := ⟨hp.1.elim (fun h => h.2) (fun h => absurd ho h.1), hp.2⟩; clear hp)
    go_ret
    exact ⟨.inl ⟨ho, rfl⟩, hb⟩
  · go_enter Try.func38, Try.ntmps38
    go_wp2_with (go_at_call 48; refine HI.out.mono ?_; intro e w1 hp; obtain ⟨⟨k, rfl⟩, hb⟩ : (∃ k : Nat, e = .returned (.int .i64 (k : Int))) ∧ Below w.heap.size w w1 := ⟨hp.1.elim (fun h => absurd h.1 ho) (fun h => h.2), hp.2⟩; have hd : decide (0 ≤ (k : Int)) = true := decide_eq_true (Int.natCast_nonneg k); clear hp)
    go_ret
    exact ⟨.inr ⟨ho, rfl⟩, hb⟩
end Go.Proofs.Ytmmdkafkfjfgnaa

/- Package leap: Make, whole. -/
namespace Go.Proofs.Ytmmdkafkfjfgnaa
open Go.RowKit
set_option linter.unusedVariables false
set_option linter.unusedSimpArgs false

def DayR (n : Int) : Prop := -719162 ≤ n ∧ n ≤ 2932896
theorem not_fine {st ah en : Int} (h : ¬ FineR st ah en) : (¬ (-719162 ≤ st ∧ st ≤ 2932896)) ∨ ((-719162 ≤ st ∧ st ≤ 2932896) ∧ ¬ (-719162 ≤ en ∧ en ≤ 2932896)) ∨ ((-719162 ≤ st ∧ st ≤ 2932896) ∧ (-719162 ≤ en ∧ en ≤ 2932896) ∧ en ≤ st) ∨
    ((-719162 ≤ st ∧ st ≤ 2932896) ∧ (-719162 ≤ en ∧ en ≤ 2932896) ∧ ¬ en ≤ st ∧ ah < 0) ∨ ((-719162 ≤ st ∧ st ≤ 2932896) ∧ (-719162 ≤ en ∧ en ≤ 2932896) ∧ ¬ en ≤ st ∧ ¬ ah < 0 ∧ 99 < ah) := by
  refine Classical.byContradiction fun k => h ?_
  have k1 : -719162 ≤ st ∧ st ≤ 2932896 := Classical.byContradiction fun n => k (.inl n)
  have k2 : -719162 ≤ en ∧ en ≤ 2932896 := Classical.byContradiction fun n => k (.inr (.inl ⟨k1, n⟩))
  have k3 : ¬ en ≤ st := fun n => k (.inr (.inr (.inl ⟨k1, k2, n⟩)))
  have k4 : ¬ ah < 0 := fun n => k (.inr (.inr (.inr (.inl ⟨k1, k2, k3, n⟩))))
  have k5 : ¬ 99 < ah := fun n => k (.inr (.inr (.inr (.inr ⟨k1, k2, k3, k4, n⟩))))
  exact ⟨k1.1, k1.2, k2.1, k2.2, by omega, by omega, by omega⟩
/-- Behind Make. -/
def MakePost (st ah en : Int) (L : List (Int × Int)) (w : World) (e : Ending) (w' : World) : Prop :=
  ((faultT st ah en L = 0 ∧ ∃ q, e = .returned (.tuple #[.pointer (some ⟨q, 0, none⟩), .int .i64 0]) ∧ Tl w' w.heap.size q ⟨st, ah, en, L⟩) ∨ (¬ faultT st ah en L = 0 ∧ e = .returned (.tuple #[.pointer none, .int .i64 (faultT st ah en L)]))) ∧ Below w.heap.size w w'
theorem make_bad (w : World) (st ah en : Int) (A : Option Addr) (n c : Nat) (L : List (Int × Int)) (h : ¬ FineR st ah en) :
    Calls Try.prog 21 #[.int .i64 st, .int .i64 ah, .int .i64 en, .slice A n c] w (MakePost st ah en L w) := by
  have hf : faultT st ah en L = 1 := by unfold faultT; rw [if_pos h]
  unfold MakePost
  rw [hf]
  clear hf
  rcases not_fine h with k | ⟨k1, k⟩ | ⟨k1, k2, k⟩ | ⟨k1, k2, k3, k⟩ | ⟨k1, k2, k3, k4, k⟩
  all_goals
    try have d1 := decide_eq_true k1
    try have d2 := decide_eq_true k2
    try have d3 := decide_eq_false k3
    try have d4 := decide_eq_false k4
    first | have d5 := decide_eq_false k | have d5 := decide_eq_true k
    clear h
    try clear k1
    try clear k2
    try clear k3
    try clear k4
    clear k
    go_enter Try.func21, Try.ntmps21
    go_wp2_with (go_at_call 37; refine (isday_any _ _).mono ?_; rintro e w1 ⟨rfl, hw1⟩; replace hw1 := hw1.symm; subst hw1)
    go_ret2
    exact ⟨.inr ⟨by decide, rfl⟩, Below.refl _ _⟩
theorem Tl.age {w w' : World} {B q : Nat} {T : TB} (h : Tl w B q T) (hx : Below w.heap.size w w') : ∃ A c, w'.cell? ⟨q, 3, none⟩ = some (.slice A T.lp.length c) ∧ ∀ z, (Value.slice A T.lp.length c).ownBlock = some z → z < w.heap.size := by
  obtain ⟨_, A, c, hH, hO⟩ := h
  exact ⟨A, c, (hH.below hx hH.lt).cell 3, fun z hz => (hO.lt z hz).2⟩
theorem make_step (w : World) (st ah en : Int) (A : Option Addr) (n c : Nat) (L : List (Int × Int)) (h : FineR st ah en) (hr : PRow w A n c L) (ho : ¬ Ones L) :
    Calls Try.prog 21 #[.int .i64 st, .int .i64 ah, .int .i64 en, .slice A n c] w (MakePost st ah en L w) := by
  have hf : faultT st ah en L = 1 := by unfold faultT; rw [if_neg (not_not_intro h), if_pos ho]
  unfold MakePost
  rw [hf]
  have d1 := decide_eq_true (And.intro h.s1 h.s2)
  have d2 := decide_eq_true (And.intro h.e1 h.e2)
  have d3 : decide (en ≤ st) = false := decide_eq_false (by have := h.lt; omega)
  have d4 : decide (ah < 0) = false := decide_eq_false (by have := h.a1; omega)
  have d5 : decide (99 < ah) = false := decide_eq_false (by have := h.a2; omega)
  have HC := Lib.hid (contains_any w A n c L hr)
  have HO := Lib.hid ho
  clear hf h hr ho
  go_enter Try.func21, Try.ntmps21
  go_wp2_with (first
    | (go_at_call 37; refine (isday_any _ _).mono ?_; rintro e w1 ⟨rfl, hw1⟩; replace hw1 := hw1.symm; subst hw1)
    | (go_at_call 38; refine HC.out.mono ?_; intro e w2 hp; obtain ⟨rfl, hb2⟩ : e = .returned (.bool true) ∧ Below w.heap.size w w2 := ⟨hp.1.elim (fun h => absurd h.1 HO.out) (fun h => h.2), hp.2⟩; clear hp))
  go_ret2
  exact ⟨.inr ⟨by decide, rfl⟩, hb2⟩
theorem make_full (w : World) (st ah en : Int) (A : Option Addr) (n c : Nat) (L : List (Int × Int)) (h : FineR st ah en) (hr : PRow w A n c L) (ho : Ones L) (h64 : 64 < L.length) :
    Calls Try.prog 21 #[.int .i64 st, .int .i64 ah, .int .i64 en, .slice A n c] w (MakePost st ah en L w) := by
  have hf : faultT st ah en L = 6 := by unfold faultT; rw [if_neg (not_not_intro h), if_neg (not_not_intro ho), if_pos h64]
  unfold MakePost
  rw [hf]
  have d1 := decide_eq_true (And.intro h.s1 h.s2)
  have d2 := decide_eq_true (And.intro h.e1 h.e2)
  have d3 : decide (en ≤ st) = false := decide_eq_false (by have := h.lt; omega)
  have d4 : decide (ah < 0) = false := decide_eq_false (by have := h.a1; omega)
  have d5 : decide (99 < ah) = false := decide_eq_false (by have := h.a2; omega)
  have e1 : (64 : Int) < (n : Int) := by have := hr.len; omega
  have e2 : 64 < n := by omega
  have e3 : decide ((64 : Int) < (n : Int)) = true := decide_eq_true e1
  have e4 : decide (64 < n) = true := decide_eq_true e2
  have HC := Lib.hid (contains_any w A n c L hr)
  have HO := Lib.hid ho
  clear hf h hr ho h64
  go_enter Try.func21, Try.ntmps21
  go_wp2_with (first
    | (go_at_call 37; refine (isday_any _ _).mono ?_; rintro e w1 ⟨rfl, hw1⟩; replace hw1 := hw1.symm; subst hw1)
    | (go_at_call 38; refine HC.out.mono ?_; intro e w2 hp; obtain ⟨rfl, hb2⟩ : e = .returned (.bool false) ∧ Below w.heap.size w w2 := ⟨hp.1.elim (fun h => h.2) (fun h => absurd HO.out h.1), hp.2⟩; clear hp))
  go_ret2
  exact ⟨.inr ⟨by decide, rfl⟩, hb2⟩
set_option maxRecDepth 100000 in
set_option maxHeartbeats 4000000 in
theorem make_rest (w : World) (st ah en : Int) (A : Option Addr) (n c : Nat) (L : List (Int × Int)) (h : FineR st ah en) (hr : PRow w A n c L) (ho : Ones L) (h64 : ¬ 64 < L.length) :
    Calls Try.prog 21 #[.int .i64 st, .int .i64 ah, .int .i64 en, .slice A n c] w (MakePost st ah en L w) := by
  have hf : faultT st ah en L = 0 ∨ faultT st ah en L = 12 := by
    unfold faultT
    rw [if_neg (not_not_intro h), if_neg (not_not_intro ho), if_neg h64]
    by_cases k : OrdL st en L
    · exact .inl (if_neg (not_not_intro k))
    · exact .inr (if_pos k)
  have hf0 : faultT st ah en L = 0 ↔ OrdL st en L := by
    unfold faultT
    rw [if_neg (not_not_intro h), if_neg (not_not_intro ho), if_neg h64]
    by_cases k : OrdL st en L
    · rw [if_neg (not_not_intro k)]
      exact ⟨fun _ => k, fun _ => rfl⟩
    · rw [if_pos k]
      exact ⟨fun h => (by cases h), fun h => absurd h k⟩
  have HF := Lib.hid hf
  have HF0 := Lib.hid hf0
  have d1 := decide_eq_true (And.intro h.s1 h.s2)
  have d2 := decide_eq_true (And.intro h.e1 h.e2)
  have d3 : decide (en ≤ st) = false := decide_eq_false (by have := h.lt; omega)
  have d4 : decide (ah < 0) = false := decide_eq_false (by have := h.a1; omega)
  have d5 : decide (99 < ah) = false := decide_eq_false (by have := h.a2; omega)
  have hnl := hr.len
  have e1 : decide ((64 : Int) < (n : Int)) = false := decide_eq_false (by omega)
  have e2 : ¬ 64 < n := by omega
  have e4 : decide (64 < n) = false := decide_eq_false e2
  have HC := Lib.hid (contains_any w A n c L hr)
  have HO := Lib.hid ho
  have HR := Lib.hid hr
  have hcap := hr.cap_le
  have hmax := hr.max
  unfold maxLen at hmax
  obtain ⟨F, hF⟩ : ∃ F, faultT st ah en L = F := ⟨_, rfl⟩
  unfold MakePost
  rw [hF] at HF HF0 ⊢
  clear hf hf0 h hr ho h64 hF
  go_enter Try.func21, Try.ntmps21
  go_wp2_with (first
    | (go_at_call 37; refine (isday_any _ _).mono ?_; rintro e w1 ⟨rfl, hw1⟩; replace hw1 := hw1.symm; subst hw1)
    | (go_at_call 38; refine HC.out.mono ?_; intro e w2 hp; obtain ⟨rfl, hb2⟩ : e = .returned (.bool false) ∧ Below w.heap.size w w2 := ⟨hp.1.elim (fun h => h.2) (fun h => absurd HO.out h.1), hp.2⟩; clear hp))
  have HT0 := Lib.hid (show Tl (w2.alloc (.cells #[.int .i64 st, .int .i64 ah, .int .i64 en, .slice none 0 0] 104)) w.heap.size w2.heap.size ⟨st, ah, en, []⟩ from ⟨hb2.size, none, 0, Holds.new w2 _ _, World.ownsRow_nil _ _ _ _⟩)
  have HB0 := Lib.hid (hb2.trans ((below_alloc w2 (.cells #[.int .i64 st, .int .i64 ah, .int .i64 en, .slice none 0 0] 104)).mono hb2.size))
  obtain ⟨q, hq⟩ : ∃ q, w2.heap.size = q := ⟨_, rfl⟩
  simp only [hq] at HT0 ⊢
  clear hq hb2 d1 d2 d3 d4 d5
  go_loopw [46] (fun i wr => ∃ k : Nat, k ≤ n ∧ i = .int .i64 (k : Int) ∧ OrdL st en (L.take k) ∧ Tl wr w.heap.size q ⟨st, ah, en, L.take k⟩ ∧ Below w.heap.size w wr) (fun i _ => n - (intOf i).toNat)
  case atStart => exact ⟨0, Nat.zero_le _, rfl, by rw [List.take_zero]; exact ord_nil st en, by rw [List.take_zero]; exact HT0.out, HB0.out⟩
  case round =>
    clear HT0 HB0
    obtain ⟨k, hk, rfl, ho, ht, hb⟩ := hrel
    by_cases hlt : k < n
    · obtain ⟨e, he⟩ : ∃ x, L[k]? = some x := ⟨_, List.getElem?_eq_getElem (by omega)⟩
      have hnext : L.take (k + 1) = L.take k ++ [e] := by
        obtain ⟨hk', e'⟩ := List.getElem?_eq_some_iff.1 he
        rw [List.take_succ_eq_append_getElem hk', e']
      obtain ⟨x, y⟩ := e
      obtain ⟨b, off, rfl, hbl, q0, q1⟩ := (HR.out.below hb).at he
      have hsn := ord_snoc ho x y
      rw [← hnext] at hsn
      have hltI : (k : Int) < (n : Int) := by omega
      have ew := IntWalk.i64_in ((k : Int) + 1) (by omega)
      have hlen : (L.take k).length = k := by rw [List.length_take]; omega
      have HB := Lib.hid hb
      have HSN := Lib.hid hsn
      have HNX := Lib.hid hnext
      have HX := Lib.hid (Box.start wr 77 #[.int .i64 x, .int .i64 y])
      have x0 := HX.out.holds.cell 0
      have x1 := HX.out.holds.cell 1
      have HT := Lib.hid (ht.below (below_alloc wr (.cells #[.int .i64 x, .int .i64 y] 77)))
      have HTK := Lib.hid (takes_any _ _ q ⟨st, ah, en, L.take k⟩ x HT.out (by dsimp only; omega))
      have HAG := Lib.hid (fun w' => ht.age (w' := w'))
      have HLen := Lib.hid hlen
      obtain ⟨M, hM⟩ : ∃ M, L.take k = M := ⟨_, rfl⟩
      simp only [hM] at HSN HNX HT HTK HLen HAG
      have HMe := Lib.hid hM
      clear he hnext hsn hb ho ht hlen hM
      cases htk : takesB st M x with
      | false =>
        rw [htk] at HTK
        have HN := Lib.hid (show F = 12 from HF.out.resolve_left (fun h => by
          have := (HSN.out.1 (ord_pre (HF0.out.1 h) (List.take_prefix _ _))).1
          rw [htk] at this
          cases this))
        clear htk
        go_wp2_with (go_at_call 40; refine HTK.out.mono ?_; rintro e w5 ⟨rfl, n5, hw5⟩; have hb5 := (show Below (wr.alloc (.cells #[.int .i64 x, .int .i64 y] 77)).heap.size (wr.alloc (.cells #[.int .i64 x, .int .i64 y] 77)) w5 by rw [hw5]; exact below_drewN (Below.refl _ _) _); have HX5 := Lib.hid (HX.out.next hb5); have HT5 := Lib.hid (HT.out.below hb5); have y0 := HX5.out.holds.cell 0; have y1 := HX5.out.holds.cell 1; clear hw5 hb5 x0 x1)
        go_ret2
        refine ⟨.inr ⟨by rw [HN.out]; decide, by rw [HN.out]; rfl⟩, HB.out.trans (HX5.out.below.mono HB.out.size)⟩
      | true =>
        rw [htk] at HTK
        by_cases hxe : x < en
        · have d6 : decide (en ≤ x) = false := decide_eq_false (by omega)
          have HON := Lib.hid (HSN.out.2 ⟨htk, hxe⟩)
          clear htk hxe
          go_upto_region 13 with (go_at_call 40; refine HTK.out.mono ?_; rintro e w5 ⟨rfl, n5, hw5⟩; have hb5 := (show Below (wr.alloc (.cells #[.int .i64 x, .int .i64 y] 77)).heap.size (wr.alloc (.cells #[.int .i64 x, .int .i64 y] 77)) w5 by rw [hw5]; exact below_drewN (Below.refl _ _) _); have HX5 := Lib.hid (HX.out.next hb5); have HT5 := Lib.hid (HT.out.below hb5); have y0 := HX5.out.holds.cell 0; have y1 := HX5.out.holds.cell 1; clear hw5 hb5 x0 x1)
          obtain ⟨b0, hb0⟩ : ∃ b0, wr.heap.size = b0 := ⟨_, rfl⟩
          obtain ⟨Ag, cg, hag1, hag2⟩ := HAG.out w5.drew (HX5.out.below.drew)
          simp only [hb0] at hag2 y0 y1 ⊢
          have HHL := Lib.hid (show Holds w5.drew b0 77 #[.int .i64 x, .int .i64 y] by rw [← hb0]; exact HX5.out.holds)
          have HB5 := Lib.hid (show Below w.heap.size w w5.drew from (HB.out.trans (HX5.out.below.mono HB.out.size)).drew)
          have HT6 := Lib.hid (HT5.out.below (Below.refl w5.heap.size w5).drew)
          have HAG2 := Lib.hid hag2
          have HML := Lib.hid (show M.length ≤ 1000 by rw [HLen.out]; omega)
          have HS5 := Lib.hid (show w5.drew.cell? ⟨q, 3, none⟩ = some (.slice Ag M.length cg) ∧ w5.drew.cell? ⟨b0, 0, none⟩ = some (.int .i64 x) ∧ w5.drew.cell? ⟨b0, 1, none⟩ = some (.int .i64 y) from ⟨hag1, HHL.out.cell 0, HHL.out.cell 1⟩)
          clear hb0 hag1 hag2 y0 y1 HTK HX HX5 HAG HT HT5 q0 q1 hbl
          refine region_turns (fun (w' : World) => w'.cell? ⟨q, 3, none⟩ = some (.slice Ag M.length cg) ∧ w'.cell? ⟨b0, 0, none⟩ = some (.int .i64 x) ∧ w'.cell? ⟨b0, 1, none⟩ = some (.int .i64 y)) (fun j => decide (8 ≤ j)) (by kernel_rfl) (HS5.out) (fun hS => ?_)
          refine Turns.take hS 0 _ rfl (by kernel_rfl) (by kernel_rfl) (by kernel_rfl) (by kernel_rfl) (fun _ _ _ h => h) (by rfl) (fun w' hS' => by (try dsimp only at hS'); go_split_ands; go_simp; (try with_reducible rfl)) ?_
          simp only [Act.put, List.getElem_toArray, List.getElem_cons_succ, List.getElem_cons_zero, List.setIfInBounds_toArray, List.set_cons_zero, List.set_cons_succ]
          refine Turns.take hS 1 _ rfl (by kernel_rfl) (by kernel_rfl) (by kernel_rfl) (by kernel_rfl) (fun _ _ _ h => h) (by rfl) (fun w' hS' => by (try dsimp only at hS'); go_split_ands; go_simp; (try with_reducible rfl)) ?_
          simp only [Act.put, List.getElem_toArray, List.getElem_cons_succ, List.getElem_cons_zero, List.setIfInBounds_toArray, List.set_cons_zero, List.set_cons_succ]
          refine Turns.take hS 2 _ rfl (by kernel_rfl) (by kernel_rfl) (by kernel_rfl) (by kernel_rfl) (fun _ _ _ h => h) (by rfl) (fun w' hS' => by (try dsimp only at hS'); go_split_ands; go_simp; (try with_reducible rfl)) ?_
          simp only [Act.put, List.getElem_toArray, List.getElem_cons_succ, List.getElem_cons_zero, List.setIfInBounds_toArray, List.set_cons_zero, List.set_cons_succ]
          refine Turns.take hS 3 _ rfl (by kernel_rfl) (by kernel_rfl) (by kernel_rfl) (by kernel_rfl) (fun _ _ _ h => h) (by rfl) (fun w' hS' => by (try dsimp only at hS'); go_split_ands; go_simp; (try with_reducible rfl)) ?_
          simp only [Act.put, List.getElem_toArray, List.getElem_cons_succ, List.getElem_cons_zero, List.setIfInBounds_toArray, List.set_cons_zero, List.set_cons_succ]
          refine Turns.take hS 4 _ rfl (by kernel_rfl) (by kernel_rfl) (by kernel_rfl) (by kernel_rfl) (fun _ _ _ h => h) (by rfl) (fun w' hS' => by (try dsimp only at hS'); go_split_ands; go_simp; (try with_reducible rfl)) ?_
          simp only [Act.put, List.getElem_toArray, List.getElem_cons_succ, List.getElem_cons_zero, List.setIfInBounds_toArray, List.set_cons_zero, List.set_cons_succ]
          refine Turns.take hS 5 _ rfl (by kernel_rfl) (by kernel_rfl) (by kernel_rfl) (by kernel_rfl) (fun _ _ _ h => h) (by rfl) (fun w' hS' => by (try dsimp only at hS'); go_split_ands; go_simp; (try with_reducible rfl)) ?_
          simp only [Act.put, List.getElem_toArray, List.getElem_cons_succ, List.getElem_cons_zero, List.setIfInBounds_toArray, List.set_cons_zero, List.set_cons_succ]
          refine Turns.next 6 rfl (by kernel_rfl) (by rfl) (fun K hK => ?_)
          go_simp
          have hb6 := below_alloc w5.drew (.cells #[.int .i64 x, .int .i64 y] 77)
          have HT7 := Lib.hid (HT6.out.below hb6)
          have HN6 := Lib.hid (Holds.new w5.drew 77 #[.int .i64 x, .int .i64 y])
          have HB6 := Lib.hid (HB5.out.trans (hb6.mono HB5.out.size))
          obtain ⟨A6, c6, h6, hrest⟩ := HT7.out.push HML.out HB6.out.size HN6.out
          have he6 := ((hb6.cell (p := ⟨q, 3, none⟩) (block_lt HS5.out.1)).trans HS5.out.1).symm.trans (h6.cell 3)
          simp only [List.getElem?_toArray, List.getElem?_cons_succ, List.getElem?_cons_zero, Option.some.injEq, Value.slice.injEq, true_and] at he6
          obtain ⟨rfl, rfl⟩ := he6
          have HRest := Lib.hid hrest
          have HS6 := Lib.hid (show _ ∧ _ ∧ _ from ⟨h6.cell 3, (hb6.cell (p := ⟨b0, 0, none⟩) (block_lt HS5.out.2.1)).trans HS5.out.2.1, (hb6.cell (p := ⟨b0, 1, none⟩) (block_lt HS5.out.2.2)).trans HS5.out.2.2⟩)
          clear hrest h6 hb6
          refine hK.out _ _ (show (fun (w' : World) => w'.cell? ⟨q, 3, none⟩ = some (.slice Ag M.length cg) ∧ w'.cell? ⟨b0, 0, none⟩ = some (.int .i64 x) ∧ w'.cell? ⟨b0, 1, none⟩ = some (.int .i64 y)) _ from HS6.out) ?_
          clear hK K hS
          have hS := (show (fun (w' : World) => w'.cell? ⟨q, 3, none⟩ = some (.slice Ag M.length cg) ∧ w'.cell? ⟨b0, 0, none⟩ = some (.int .i64 x) ∧ w'.cell? ⟨b0, 1, none⟩ = some (.int .i64 y)) _ from HS6.out)
          refine Turns.next 7 rfl (by kernel_rfl) (by rfl) (fun K hK => ?_)
          obtain ⟨A7, c7, w7, hrun, hH7, ht7, hC7, hO7⟩ := HRest.out
          have hkb : ∀ o, w7.cell? ⟨b0, o, none⟩ = _ := fun o => hC7.cell (o := o) (block_lt HS6.out.2.1) (fun e => Nat.lt_irrefl _ (HAG2.out b0 e))
          have HS7 := Lib.hid (show _ ∧ _ ∧ _ from ⟨hH7.cell 3, (hkb 0).trans HS6.out.2.1, (hkb 1).trans HS6.out.2.2⟩)
          have HT8 := Lib.hid ht7
          have HB7 := Lib.hid (Below.chg HB6.out hC7 HB6.out.size (fun k hk => (hO7.lt k hk).1))
          have HG7 := Lib.hid (hH7.soft 3)
          clear ht7 hH7 hC7 hO7 hkb
          refine Lib.wp_append_run_sl _ (.tmp 65) (.tmp 67) 74 rfl _ _ ?hs ?hx hrun ?_
          case hs => first | rfl | simp [Act.eval, Act.put]
          case hx => first | rfl | simp [Act.eval, Act.put]
          clear hrun
          refine hK.out _ _ (show (fun (w' : World) => w'.cell? ⟨q, 3, none⟩ = some (.slice Ag M.length cg) ∧ w'.cell? ⟨b0, 0, none⟩ = some (.int .i64 x) ∧ w'.cell? ⟨b0, 1, none⟩ = some (.int .i64 y)) _ from HS7.out) ?_
          clear hK K hS
          have hS := (show (fun (w' : World) => w'.cell? ⟨q, 3, none⟩ = some (.slice Ag M.length cg) ∧ w'.cell? ⟨b0, 0, none⟩ = some (.int .i64 x) ∧ w'.cell? ⟨b0, 1, none⟩ = some (.int .i64 y)) _ from HS7.out)
          refine Turns.rest (late_done (by kernel_rfl)) ?_
          refine any_tail 8 (by rfl) (by kernel_rfl) ?_
          simp only [List.drop_succ_cons, List.drop_zero]
          clear hS
          have k7 := HS7.out.1
          have g7 := HG7.out
          go_wp2
          go_roundw
          case rel => exact ⟨k + 1, by omega, by go_num, HON.out, by rw [HNX.out]; exact HT8.out, HB7.out.setCell HT8.out.base _⟩
          case measure => simp [intOf]; omega
        · have d6 : decide (en ≤ x) = true := decide_eq_true (by omega)
          have HN := Lib.hid (show F = 12 from HF.out.resolve_left (fun h => hxe (HSN.out.1 (ord_pre (HF0.out.1 h) (List.take_prefix _ _))).2))
          clear htk hxe
          go_wp2_with (go_at_call 40; refine HTK.out.mono ?_; rintro e w5 ⟨rfl, n5, hw5⟩; have hb5 := (show Below (wr.alloc (.cells #[.int .i64 x, .int .i64 y] 77)).heap.size (wr.alloc (.cells #[.int .i64 x, .int .i64 y] 77)) w5 by rw [hw5]; exact below_drewN (Below.refl _ _) _); have HX5 := Lib.hid (HX.out.next hb5); have HT5 := Lib.hid (HT.out.below hb5); have y0 := HX5.out.holds.cell 0; have y1 := HX5.out.holds.cell 1; clear hw5 hb5 x0 x1)
          go_ret2
          refine ⟨.inr ⟨by rw [HN.out]; decide, by rw [HN.out]; rfl⟩, HB.out.trans (HX5.out.below.mono HB.out.size)⟩
    · have hkn : k = n := by omega
      have hall : L.take k = L := List.take_of_length_le (by omega)
      rw [hall] at ho ht
      have HT := Lib.hid ht
      have HB := Lib.hid hb
      have hF0 : F = 0 := HF0.out.2 ho
      have HF1 := Lib.hid hF0
      have hltI : decide ((k : Int) < (n : Int)) = false := decide_eq_false (by omega)
      clear ho ht hb hall hF0 hkn
      go_wp2
      go_ret2
      exact ⟨.inl ⟨HF1.out, q, rfl, HT.out⟩, HB.out⟩
theorem make_any (w : World) (st ah en : Int) (A : Option Addr) (n c : Nat) (L : List (Int × Int)) (hr : PRow w A n c L) :
    Calls Try.prog 21 #[.int .i64 st, .int .i64 ah, .int .i64 en, .slice A n c] w (MakePost st ah en L w) := by
  by_cases h : FineR st ah en
  · by_cases ho : Ones L
    · by_cases h64 : 64 < L.length
      · exact make_full w st ah en A n c L h hr ho h64
      · exact make_rest w st ah en A n c L h hr ho h64
    · exact make_step w st ah en A n c L h hr ho
  · exact make_bad w st ah en A n c L h
theorem fault_few {st ah en : Int} {L : List (Int × Int)} (h : faultT st ah en L = 0) : FineR st ah en ∧ Ones L ∧ L.length ≤ 64 ∧ OrdL st en L := by
  unfold faultT at h
  by_cases h1 : FineR st ah en
  · rw [if_neg (not_not_intro h1)] at h
    by_cases h2 : Ones L
    · rw [if_neg (not_not_intro h2)] at h
      by_cases h3 : 64 < L.length
      · rw [if_pos h3] at h
        cases h
      · rw [if_neg h3] at h
        by_cases h4 : OrdL st en L
        · exact ⟨h1, h2, by omega, h4⟩
        · rw [if_pos h4] at h
          cases h
    · rw [if_pos h2] at h
      cases h
  · rw [if_pos h1] at h
    cases h
end Go.Proofs.Ytmmdkafkfjfgnaa

/- Package utc, mathematics: hours, minutes and seconds; the seconds of a table's days; a second's text, its order, its reading. Nothing here speaks of one program. -/
namespace Go.Proofs.Ytmmdkafkfjfgnaa
set_option linter.unusedSimpArgs false
set_option linter.unusedVariables false

/-- Can an hour, a minute, a second be those of some day? -/
structure CanT (H M S : Int) : Prop where
  h1 : 0 ≤ H
  h2 : H ≤ 23
  m1 : 0 ≤ M
  m2 : M ≤ 59
  s1 : 0 ≤ S
  s2 : S ≤ 59 ∨ (S = 60 ∧ H = 23 ∧ M = 59)
def goodT (H M S : Int) : Bool := decide (0 ≤ H ∧ H ≤ 23 ∧ 0 ≤ M ∧ M ≤ 59 ∧ 0 ≤ S ∧ (S ≤ 59 ∨ (S = 60 ∧ H = 23 ∧ M = 59)))
theorem goodT_yes {H M S : Int} (h : CanT H M S) : goodT H M S = true := decide_eq_true ⟨h.h1, h.h2, h.m1, h.m2, h.s1, h.s2⟩
theorem goodT_no {H M S : Int} (h : ¬ CanT H M S) : goodT H M S = false := decide_eq_false fun ⟨a, b, c, e, f, g⟩ => h ⟨a, b, c, e, f, g⟩
theorem not_canT {H M S : Int} (h : ¬ CanT H M S) : H < 0 ∨ (0 ≤ H ∧ 23 < H) ∨ (0 ≤ H ∧ H ≤ 23 ∧ M < 0) ∨ (0 ≤ H ∧ H ≤ 23 ∧ 0 ≤ M ∧ 59 < M) ∨ (0 ≤ H ∧ H ≤ 23 ∧ 0 ≤ M ∧ M ≤ 59 ∧ S < 0) ∨ (0 ≤ H ∧ H ≤ 23 ∧ 0 ≤ M ∧ M ≤ 59 ∧ 60 < S) ∨ (0 ≤ H ∧ H ≤ 22 ∧ 0 ≤ M ∧ M ≤ 59 ∧ S = 60) ∨ (H = 23 ∧ 0 ≤ M ∧ M ≤ 58 ∧ S = 60) :=
  Classical.byContradiction fun g => h ⟨by omega, by omega, by omega, by omega, by omega, by omega⟩
/-- Can all six numbers be a second? -/
def goodU (y m d H M S : Int) : Bool := goodD y m d && goodT H M S
theorem goodU_yes {y m d H M S : Int} (h : CanD y m d) (k : CanT H M S) : goodU y m d H M S = true := by unfold goodU; rw [goodD_yes h, goodT_yes k]; rfl
theorem goodU_no {y m d H M S : Int} (h : ¬ (CanD y m d ∧ CanT H M S)) : goodU y m d H M S = false := by
  unfold goodU
  by_cases k : CanD y m d
  · rw [goodT_no (fun t => h ⟨k, t⟩)]
    exact Bool.and_false _
  · rw [goodD_no k]
    rfl
/-- Which second of its day. -/
def secV (H M S : Int) : Int := 3600 * H + 60 * M + S
theorem sec_bd' {H M S : Int} (h : CanT H M S) : 0 ≤ secV H M S ∧ secV H M S ≤ 86400 := by
  obtain ⟨a, b, c, e, f, g⟩ := h
  unfold secV
  omega
theorem sec_lt {H M S H' M' S' : Int} (h : CanT H M S) (h' : CanT H' M' S') : (H < H' ∨ (H = H' ∧ (M < M' ∨ (M = M' ∧ S < S')))) ↔ secV H M S < secV H' M' S' := by
  obtain ⟨a, b, c, e, f, g⟩ := h
  obtain ⟨a', b', c', e', f', g'⟩ := h'
  unfold secV
  omega
theorem sec_one {H M S H' M' S' : Int} (h : CanT H M S) (h' : CanT H' M' S') (e : secV H M S = secV H' M' S') : H = H' ∧ M = M' ∧ S = S' := by
  have k := sec_lt h h'
  have k' := sec_lt h' h
  rw [e] at k k'
  have n := fun t => Int.lt_irrefl _ (k.1 t)
  have n' := fun t => Int.lt_irrefl _ (k'.1 t)
  omega
/-- The hour, the minute, the second of the s-th one of a day. -/
def hV (s : Int) : Int := if s = 86400 then 23 else s / 3600
def mV (s : Int) : Int := if s = 86400 then 59 else s % 3600 / 60
def sV (s : Int) : Int := if s = 86400 then 60 else s % 60
theorem hms_can {s : Int} (h1 : 0 ≤ s) (h2 : s ≤ 86400) : CanT (hV s) (mV s) (sV s) := by
  unfold hV mV sV
  by_cases h : s = 86400
  · rw [if_pos h, if_pos h, if_pos h]
    exact ⟨by decide, by decide, by decide, by decide, by decide, .inr ⟨rfl, rfl, rfl⟩⟩
  · rw [if_neg h, if_neg h, if_neg h]
    exact ⟨by omega, by omega, by omega, by omega, by omega, by omega⟩
theorem hms_sec {s : Int} (h1 : 0 ≤ s) (h2 : s ≤ 86400) : secV (hV s) (mV s) (sV s) = s := by
  unfold hV mV sV secV
  by_cases h : s = 86400
  · rw [if_pos h, if_pos h, if_pos h, h]
    decide
  · rw [if_neg h, if_neg h, if_neg h]
    omega
theorem sec_hms {H M S : Int} (h : CanT H M S) : hV (secV H M S) = H ∧ mV (secV H M S) = M ∧ sV (secV H M S) = S := by
  have b := sec_bd' h
  exact sec_one (hms_can b.1 b.2) h (hms_sec b.1 b.2)

/-- A table that can be. -/
structure GTab (st ah en : Int) (L : List (Int × Int)) : Prop where
  fine : FineR st ah en
  ones : Ones L
  few : L.length ≤ 64
  ord : OrdL st en L
/-- With which second of TAI a day begins; how many it has. -/
def beginV (ah : Int) (L : List (Int × Int)) (d : Int) : Int := 86400 * d + aheadL ah L d
def lenV (L : List (Int × Int)) (d : Int) : Int := 86400 + stepL L d
section
variable {st ah en : Int} {L : List (Int × Int)}
theorem GTab.next (h : GTab st ah en L) (d : Int) : beginV ah L (d + 1) = beginV ah L d + lenV L d := by
  unfold beginV lenV
  rw [aheadL_next L ah d h.ord.2]
  omega
theorem GTab.len (h : GTab st ah en L) (d : Int) : 86399 ≤ lenV L d ∧ lenV L d ≤ 86401 := by
  have := stepL_mem (d := d) h.ones
  unfold lenV
  omega
theorem GTab.lead (h : GTab st ah en L) (d : Int) : -64 ≤ aheadL ah L d ∧ aheadL ah L d ≤ 163 := by
  have := aheadL_bd L ah d h.ones
  have := h.few
  have := h.fine.a1
  have := h.fine.a2
  omega
theorem GTab.beg (h : GTab st ah en L) (d : Int) : 86400 * d - 64 ≤ beginV ah L d ∧ beginV ah L d ≤ 86400 * d + 163 := by
  have := h.lead d
  unfold beginV
  omega
theorem GTab.from (h : GTab st ah en L) (d : Int) (k : Nat) : beginV ah L d + lenV L d ≤ beginV ah L (d + 1 + k) := by
  induction k with
  | zero =>
    rw [← h.next d]
    simp
  | succ k ih =>
    have e := h.next (d + 1 + k)
    have l := (h.len (d + 1 + k)).1
    have : d + 1 + ((k + 1 : Nat) : Int) = d + 1 + k + 1 := by omega
    rw [this]
    omega
theorem GTab.after (h : GTab st ah en L) {d d' : Int} (hl : d < d') : beginV ah L d + lenV L d ≤ beginV ah L d' := by
  have := h.from d (d' - d - 1).toNat
  have e : d + 1 + ((d' - d - 1).toNat : Int) = d' := by omega
  rwa [e] at this
theorem GTab.le (h : GTab st ah en L) {d d' : Int} (hl : d ≤ d') : beginV ah L d ≤ beginV ah L d' := by
  rcases Int.le_iff_lt_or_eq.1 hl with k | rfl
  · have := h.after k
    have := (h.len d).1
    omega
  · exact Int.le_refl _
end
/-- Is a second of TAI one of a day, of which the table tells? -/
structure OnDay (st ah en : Int) (L : List (Int × Int)) (tai d : Int) : Prop where
  lo : st ≤ d
  hi : d < en
  b : beginV ah L d ≤ tai
  e : tai < beginV ah L d + lenV L d
section
variable {st ah en : Int} {L : List (Int × Int)} {a b d d' : Int}
theorem OnDay.one (g : GTab st ah en L) (h : OnDay st ah en L a d) (h' : OnDay st ah en L a d') : d = d' := by
  refine Classical.byContradiction fun n => ?_
  rcases (by omega : d < d' ∨ d' < d) with k | k
  · have := g.after k
    have := h.e
    have := h'.b
    omega
  · have := g.after k
    have := h'.e
    have := h.b
    omega
theorem OnDay.near (g : GTab st ah en L) (h : OnDay st ah en L a d) : d = a / 86400 - 1 ∨ d = a / 86400 ∨ d = a / 86400 + 1 := by
  have := g.beg d
  have := g.len d
  have := h.b
  have := h.e
  omega
theorem OnDay.sec (g : GTab st ah en L) (h : OnDay st ah en L a d) : 0 ≤ a - beginV ah L d ∧ a - beginV ah L d ≤ 86400 ∧ a - beginV ah L d < lenV L d := by
  have := g.len d
  have := h.b
  have := h.e
  omega
theorem OnDay.lt (g : GTab st ah en L) (h : OnDay st ah en L a d) (h' : OnDay st ah en L b d') : a < b ↔ (d < d' ∨ (d = d' ∧ a - beginV ah L d < b - beginV ah L d')) := by
  have h1 := h.b
  have h2 := h.e
  have h3 := h'.b
  have h4 := h'.e
  rcases (by omega : d < d' ∨ d = d' ∨ d' < d) with k | rfl | k
  · have := g.after k
    omega
  · omega
  · have := g.after k
    omega
/-- Who lies outside of all days. -/
theorem on_below (g : GTab st ah en L) (h : a < beginV ah L st) : ¬ ∃ d, OnDay st ah en L a d := by
  rintro ⟨d, k⟩
  have := g.le k.lo
  have := k.b
  omega
theorem on_above (g : GTab st ah en L) (h : beginV ah L (en - 1) + lenV L (en - 1) ≤ a) : ¬ ∃ d, OnDay st ah en L a d := by
  rintro ⟨d, k⟩
  have k1 := k.hi
  have k2 := k.e
  rcases (by omega : d < en - 1 ∨ d = en - 1) with j | rfl
  · have := g.after j
    have := (g.len (en - 1)).1
    omega
  · omega
theorem on_back (h1 : st ≤ d) (h2 : d < en) {s : Int} (hs : 0 ≤ s) (hl : s < lenV L d) : OnDay st ah en L (beginV ah L d + s) d := ⟨h1, h2, by omega, by omega⟩
theorem on_none (g : GTab st ah en L) (h : ¬ ∃ d, OnDay st ah en L a d) (hb : st ≤ d) (he : d < en) : ¬ (beginV ah L d ≤ a ∧ a - beginV ah L d < lenV L d) := fun k => h ⟨d, hb, he, k.1, by omega⟩
end

/-- A second's text. -/
def textU (y m d H M S : Int) : ByteArray := textB y m d ++ ⟨#[84]⟩ ++ digB 2 H.toNat ++ ⟨#[58]⟩ ++ digB 2 M.toNat ++ ⟨#[58]⟩ ++ digB 2 S.toNat ++ ⟨#[90]⟩
def tail10 (H M S : Int) : List UInt8 := [84, Lib.dg H.toNat 1, Lib.dg H.toNat 0, 58, Lib.dg M.toNat 1, Lib.dg M.toNat 0, 58, Lib.dg S.toNat 1, Lib.dg S.toNat 0, 90]
theorem textU_list (y m d H M S : Int) : (textU y m d H M S).data.toList = (textB y m d).data.toList ++ tail10 H M S := by
  unfold textU digB tail10
  simp only [ByteArray.data_append, Array.toList_append, List.append_assoc]
  rfl
theorem textU_size (y m d H M S : Int) : (textU y m d H M S).size = 20 := by
  rw [← list_len, textU_list, List.length_append, list_len, text_size]
  rfl
theorem less_app : ∀ (X Y A B : List UInt8), X.length = Y.length → Op.bytesLess (X ++ A) (Y ++ B) = (Op.bytesLess X Y || (X == Y && Op.bytesLess A B))
  | [], [], A, B, _ => by simp [Op.bytesLess]
  | x :: X, y :: Y, A, B, h => by
    have e : Op.bytesLess (x :: X ++ A) (y :: Y ++ B) = (decide (x < y) || (x == y && Op.bytesLess (X ++ A) (Y ++ B))) := rfl
    have e2 : Op.bytesLess (x :: X) (y :: Y) = (decide (x < y) || (x == y && Op.bytesLess X Y)) := rfl
    have e3 : (x :: X == y :: Y) = (x == y && X == Y) := rfl
    rw [e, e2, e3, less_app X Y A B (by simpa using h)]
    cases decide (x < y) <;> cases (x == y) <;> simp
theorem lex_two {a b : Nat} (ha : a < 100) (hb : b < 100) (Z : Prop) : (a / 10 ^ 1 % 10 < b / 10 ^ 1 % 10 ∨ (a / 10 ^ 1 % 10 = b / 10 ^ 1 % 10 ∧ (a / 10 ^ 0 % 10 < b / 10 ^ 0 % 10 ∨ (a / 10 ^ 0 % 10 = b / 10 ^ 0 % 10 ∧ Z)))) ↔ (a < b ∨ (a = b ∧ Z)) := by
  have k : ∀ x : Nat, x < 100 → 10 * (x / 10 ^ 1 % 10) + x / 10 ^ 0 % 10 = x := fun x hx => by omega
  rw [lex_step (Nat.mod_lt _ (by decide)) (Nat.mod_lt _ (by decide)), k a ha, k b hb]
theorem less_two (a b : Nat) (c : UInt8) (X Y : List UInt8) (Z : Prop) (ha : a < 100) (hb : b < 100) (h : Op.bytesLess X Y = true ↔ Z) :
    Op.bytesLess (c :: Lib.dg a 1 :: Lib.dg a 0 :: X) (c :: Lib.dg b 1 :: Lib.dg b 0 :: Y) = true ↔ (a < b ∨ (a = b ∧ Z)) := by
  rw [less_same, less_byte a b 1 _ _ _ (less_byte a b 0 X Y Z h), lex_two ha hb]
theorem nat_lex {p q : Int} (h1 : 0 ≤ p) (h2 : 0 ≤ q) (Z : Prop) : (p.toNat < q.toNat ∨ (p.toNat = q.toNat ∧ Z)) ↔ (p < q ∨ (p = q ∧ Z)) := by
  by_cases hz : Z <;> simp only [hz, and_true, and_false, or_false] <;> omega
theorem less_tail {H M S H' M' S' : Int} (h : CanT H M S) (h' : CanT H' M' S') : Op.bytesLess (tail10 H M S) (tail10 H' M' S') = decide (secV H M S < secV H' M' S') := by
  have k := sec_lt h h'
  obtain ⟨a, b, c, e, f, g⟩ := h
  obtain ⟨a', b', c', e', f', g'⟩ := h'
  rw [Bool.eq_iff_iff, decide_eq_true_iff, ← k]
  clear k
  have z1 : Op.bytesLess [90] [90] = true ↔ False := by rw [less_same]; simp [Op.bytesLess]
  have d0 := less_two S.toNat S'.toNat 58 _ _ _ (by omega) (by omega) z1
  have m0 := less_two M.toNat M'.toNat 58 _ _ _ (by omega) (by omega) d0
  have y0 := less_two H.toNat H'.toNat 84 _ _ _ (by omega) (by omega) m0
  refine y0.trans ?_
  rw [nat_lex a a', nat_lex c c', nat_lex f f']
  simp only [and_false, or_false]
theorem later_num {y m d y' m' d' : Int} (h : CanD y m d) (h' : CanD y' m' d') : laterD y' m' d' y m d = decide (numV y m d < numV y' m' d') := by
  rw [Bool.eq_iff_iff, decide_eq_true_iff]
  unfold laterD
  simp only [Bool.or_eq_true, Bool.and_eq_true, decide_eq_true_iff]
  constructor
  · intro k
    exact num_lt h h' (by omega)
  · intro k
    refine Classical.byContradiction fun n => ?_
    rcases (by omega : (y = y' ∧ m = m' ∧ d = d') ∨ (y' < y ∨ (y' = y ∧ (m' < m ∨ (m' = m ∧ d' < d))))) with ⟨rfl, rfl, rfl⟩ | t
    · exact Int.lt_irrefl _ k
    · have := num_lt h' h t
      omega
theorem text_same {y m d y' m' d' : Int} (h : CanD y m d) (h' : CanD y' m' d') : ((textB y m d).data.toList == (textB y' m' d').data.toList) = decide (numV y m d = numV y' m' d') := by
  rw [Bool.eq_iff_iff, decide_eq_true_iff, beq_iff_eq]
  constructor
  · intro e
    obtain ⟨rfl, rfl, rfl⟩ := text_one h h' (ByteArray.ext (Array.toList_inj.1 e))
    rfl
  · intro e
    obtain ⟨rfl, rfl, rfl⟩ := num_same h h' e
    rfl
/-- A later second has a greater text. -/
theorem less_textU {y m d H M S y' m' d' H' M' S' : Int} (h : CanD y m d) (k : CanT H M S) (h' : CanD y' m' d') (k' : CanT H' M' S') :
    Op.bytesLess (textU y m d H M S).data.toList (textU y' m' d' H' M' S').data.toList = decide (numV y m d < numV y' m' d' ∨ (numV y m d = numV y' m' d' ∧ secV H M S < secV H' M' S')) := by
  rw [textU_list, textU_list, less_app _ _ _ _ (by rw [list_len, list_len, text_size, text_size]), less_text h h', later_num h h', text_same h h', less_tail k k']
  by_cases a : numV y m d < numV y' m' d' <;> by_cases b : numV y m d = numV y' m' d' <;> by_cases c : secV H M S < secV H' M' S' <;> simp [a, b, c]
theorem textU_one {y m d H M S y' m' d' H' M' S' : Int} (h : CanD y m d) (k : CanT H M S) (h' : CanD y' m' d') (k' : CanT H' M' S') (e : textU y m d H M S = textU y' m' d' H' M' S') : (y = y' ∧ m = m' ∧ d = d') ∧ (H = H' ∧ M = M' ∧ S = S') := by
  have a := less_textU h k h' k'
  have b := less_textU h' k' h k
  rw [e] at a b
  have self : ∀ X : List UInt8, Op.bytesLess X X = false := fun X => by
    induction X with
    | nil => rfl
    | cons x X ih => rw [less_same]; exact ih
  rw [self] at a b
  have a := of_decide_eq_false a.symm
  have b := of_decide_eq_false b.symm
  have e1 : numV y m d = numV y' m' d' := by omega
  exact ⟨num_same h h' e1, sec_one k k' (by omega)⟩

/-- A text is a second's. -/
structure IsUtc (s : ByteArray) (y m d H M S : Int) : Prop where
  size : s.size = 20
  date : IsDate (s.extract 0 10) y m d
  b10 : byt s 10 = 84
  b13 : byt s 13 = 58
  b16 : byt s 16 = 58
  b19 : byt s 19 = 90
  hE : numD s 11 2 = H
  mE : numD s 14 2 = M
  sE : numD s 17 2 = S
  can : CanT H M S
theorem byt_nat {s : ByteArray} {l : List UInt8} (h : s.data.toList = l) (j : Nat) : byt s j = ((l.getD j 0).toNat : Int) := by unfold byt; rw [h]
theorem ext_list (s : ByteArray) (a b : Nat) : (s.extract a b).data.toList = (s.data.toList.drop a).take (b - a) := by
  have := Lib.extract_toList s a b
  rwa [Lib.toList_data] at this
theorem numS2 (s : ByteArray) (a : Nat) : numS s a 2 = (0 * 10 + (byt s a - 48)) * 10 + (byt s (a + 1) - 48) := rfl
theorem numD_of {s : ByteArray} {a : Nat} (h0 : 48 ≤ byt s a ∧ byt s a ≤ 57) (h1 : 48 ≤ byt s (a + 1) ∧ byt s (a + 1) ≤ 57) : numD s a 2 = 10 * (byt s a - 48) + (byt s (a + 1) - 48) := by
  unfold numD
  rw [if_pos, numS2]
  · omega
  · intro j hj
    rcases (by omega : j = 0 ∨ j = 1) with rfl | rfl
    · exact h0
    · exact h1
theorem numD_dig {s : ByteArray} {a : Nat} (h : 0 ≤ numD s a 2) : (48 ≤ byt s a ∧ byt s a ≤ 57) ∧ (48 ≤ byt s (a + 1) ∧ byt s (a + 1) ≤ 57) := by
  have hc : ∀ j, j < 2 → 48 ≤ byt s (a + j) ∧ byt s (a + j) ≤ 57 := Classical.byContradiction fun k => by
    unfold numD at h
    rw [if_neg k] at h
    omega
  exact ⟨hc 0 (by decide), hc 1 (by decide)⟩
theorem take_app (X Y : List UInt8) (n : Nat) (h : X.length = n) : ((X ++ Y).drop 0).take (n - 0) = X := by
  subst h
  simp
theorem textU_is {y m d H M S : Int} (h : CanD y m d) (k : CanT H M S) : IsUtc (textU y m d H M S) y m d H M S := by
  have hl := textU_list y m d H M S
  have hx : (textU y m d H M S).extract 0 10 = textB y m d := by
    refine ByteArray.ext (Array.toList_inj.1 ?_)
    rw [ext_list, hl]
    exact take_app _ _ 10 (by rw [list_len, text_size])
  have hb : ∀ j, byt (textU y m d H M S) (10 + j) = (((tail10 H M S).getD j 0).toNat : Int) := fun j => by
    rw [byt_nat hl, List.getD_eq_getElem?_getD, List.getElem?_append_right (by rw [list_len, text_size]; omega), list_len, text_size, Nat.add_sub_cancel_left, ← List.getD_eq_getElem?_getD]
  have dig : ∀ (n : Int) (j : Nat), (((Lib.dg n.toNat j).toNat : Nat) : Int) = 48 + (n.toNat / 10 ^ j % 10 : Nat) := fun n j => by rw [dg_nat]; omega
  obtain ⟨a, b, c, e, f, g⟩ := k
  have two : ∀ (n : Int) (p : Nat), 0 ≤ n → n ≤ 60 → byt (textU y m d H M S) p = 48 + (n.toNat / 10 ^ 1 % 10 : Nat) → byt (textU y m d H M S) (p + 1) = 48 + (n.toNat / 10 ^ 0 % 10 : Nat) → numD (textU y m d H M S) p 2 = n := fun n p h1 h2 e1 e2 => by
    rw [numD_of (by rw [e1]; omega) (by rw [e2]; omega), e1, e2]
    omega
  refine ⟨textU_size .., by rw [hx]; exact text_is h, hb 0, hb 3, hb 6, hb 9, two H 11 a (by omega) ?_ ?_, two M 14 c (by omega) ?_ ?_, two S 17 f (by omega) ?_ ?_, ⟨a, b, c, e, f, g⟩⟩
  · exact (hb 1).trans (dig H 1)
  · exact (hb 2).trans (dig H 0)
  · exact (hb 4).trans (dig M 1)
  · exact (hb 5).trans (dig M 0)
  · exact (hb 7).trans (dig S 1)
  · exact (hb 8).trans (dig S 0)
theorem is_textU {s : ByteArray} {y m d H M S : Int} (h : IsUtc s y m d H M S) : textU y m d H M S = s := by
  refine ByteArray.ext (Array.toList_inj.1 ?_)
  rw [textU_list, is_text h.date, ext_list]
  have e : ((s.data.toList.drop 0).take (10 - 0)) = s.data.toList.take 10 := rfl
  rw [e]
  refine Eq.trans (congrArg _ ?_) (List.take_append_drop 10 s.data.toList)
  have hs : ∀ j, j < 10 → ∃ b, (s.data.toList.drop 10)[j]? = some b ∧ byt s (10 + j) = (b.toNat : Int) := fun j hj => by
    have hl : 10 + j < s.data.toList.length := by rw [list_len, h.size]; omega
    refine ⟨s.data.toList[10 + j], by rw [List.getElem?_drop]; exact List.getElem?_eq_getElem hl, ?_⟩
    unfold byt
    rw [List.getD_eq_getElem?_getD, List.getElem?_eq_getElem hl]
    rfl
  obtain ⟨a, b, c, e, f, g⟩ := h.can
  have dh := numD_dig (s := s) (a := 11) (by rw [h.hE]; exact a)
  have dm := numD_dig (s := s) (a := 14) (by rw [h.mE]; exact c)
  have ds := numD_dig (s := s) (a := 17) (by rw [h.sE]; exact f)
  have vh := h.hE
  have vm := h.mE
  have vs := h.sE
  rw [numD_of dh.1 dh.2] at vh
  rw [numD_of dm.1 dm.2] at vm
  rw [numD_of ds.1 ds.2] at vs
  simp only [Nat.reduceAdd] at dh dm ds vh vm vs
  have b10 := h.b10
  have b13 := h.b13
  have b16 := h.b16
  have b19 := h.b19
  refine List.ext_getElem? fun j => ?_
  by_cases hj : j < 10
  · obtain ⟨b, e1, e2⟩ := hs j hj
    rw [e1]
    clear e1 hs
    rcases (by omega : j = 0 ∨ j = 1 ∨ j = 2 ∨ j = 3 ∨ j = 4 ∨ j = 5 ∨ j = 6 ∨ j = 7 ∨ j = 8 ∨ j = 9) with rfl | rfl | rfl | rfl | rfl | rfl | rfl | rfl | rfl | rfl
    · simp only [Nat.reduceAdd] at e2; refine congrArg some (byte_eq (?_ : ((84 : UInt8).toNat : Int) = _)); rw [← e2]; exact b10.symm
    · simp only [Nat.reduceAdd] at e2; refine congrArg some (byte_eq (?_ : ((Lib.dg H.toNat 1).toNat : Int) = _)); rw [dg_nat, ← e2]; omega
    · simp only [Nat.reduceAdd] at e2; refine congrArg some (byte_eq (?_ : ((Lib.dg H.toNat 0).toNat : Int) = _)); rw [dg_nat, ← e2]; omega
    · simp only [Nat.reduceAdd] at e2; refine congrArg some (byte_eq (?_ : ((58 : UInt8).toNat : Int) = _)); rw [← e2]; exact b13.symm
    · simp only [Nat.reduceAdd] at e2; refine congrArg some (byte_eq (?_ : ((Lib.dg M.toNat 1).toNat : Int) = _)); rw [dg_nat, ← e2]; omega
    · simp only [Nat.reduceAdd] at e2; refine congrArg some (byte_eq (?_ : ((Lib.dg M.toNat 0).toNat : Int) = _)); rw [dg_nat, ← e2]; omega
    · simp only [Nat.reduceAdd] at e2; refine congrArg some (byte_eq (?_ : ((58 : UInt8).toNat : Int) = _)); rw [← e2]; exact b16.symm
    · simp only [Nat.reduceAdd] at e2; refine congrArg some (byte_eq (?_ : ((Lib.dg S.toNat 1).toNat : Int) = _)); rw [dg_nat, ← e2]; omega
    · simp only [Nat.reduceAdd] at e2; refine congrArg some (byte_eq (?_ : ((Lib.dg S.toNat 0).toNat : Int) = _)); rw [dg_nat, ← e2]; omega
    · simp only [Nat.reduceAdd] at e2; refine congrArg some (byte_eq (?_ : ((90 : UInt8).toNat : Int) = _)); rw [← e2]; exact b19.symm
  · rw [List.getElem?_eq_none (by simp [tail10]; omega), List.getElem?_eq_none (by rw [List.length_drop, list_len, h.size]; omega)]
theorem isUtc_canD {s : ByteArray} {y m d H M S : Int} (h : IsUtc s y m d H M S) : CanD y m d := h.date.can
/-- What two bytes come to, whatever they are. -/
def numW (s : ByteArray) (a : Nat) : Int := 10 * ((byt s a - 48) % 256) + (byt s (a + 1) - 48) % 256
theorem numW_dig {s : ByteArray} {a : Nat} (h : 0 ≤ numD s a 2) : numW s a = numD s a 2 := by
  obtain ⟨h0, h1⟩ := numD_dig h
  rw [numD_of h0 h1]
  unfold numW
  omega
end Go.Proofs.Ytmmdkafkfjfgnaa

/- Structs of six fields by value, boxed (shared by all later stages). Nothing here speaks of one program. -/
namespace Go.Proofs.Ytmmdkafkfjfgnaa
open Go.RowKit

theorem Box.cells6 {w0 w : World} {t : TypeId} {a b c d e f : Value} (h : Box w0 t #[a, b, c, d, e, f] w) : w.cell? ⟨w0.heap.size, 0, none⟩ = some a ∧ w.cell? ⟨w0.heap.size, 1, none⟩ = some b ∧ w.cell? ⟨w0.heap.size, 2, none⟩ = some c ∧ w.cell? ⟨w0.heap.size, 3, none⟩ = some d ∧ w.cell? ⟨w0.heap.size, 4, none⟩ = some e ∧ w.cell? ⟨w0.heap.size, 5, none⟩ = some f ∧ Box w0 t #[a, b, c, d, e, f] w :=
  ⟨h.holds.cell 0, h.holds.cell 1, h.holds.cell 2, h.holds.cell 3, h.holds.cell 4, h.holds.cell 5, h⟩
theorem one_ints6 (a b c d e f : Int) : ∀ v ∈ ([.int .i64 a, .int .i64 b, .int .i64 c, .int .i64 d, .int .i64 e, .int .i64 f] : List Value), v.oneCell' = true := by intro v hv; simp at hv; rcases hv with rfl | rfl | rfl | rfl | rfl | rfl <;> rfl
theorem Box.six {w0 w : World} {t : TypeId} {a b c d e f : Value} (h : Box w0 t #[a, b, c, d, e, f] w) : w.cell? ⟨w0.heap.size, 0, none⟩ = some a ∧ w.cell? ⟨w0.heap.size, 1, none⟩ = some b ∧ w.cell? ⟨w0.heap.size, 2, none⟩ = some c ∧ w.cell? ⟨w0.heap.size, 3, none⟩ = some d ∧ w.cell? ⟨w0.heap.size, 4, none⟩ = some e ∧ w.cell? ⟨w0.heap.size, 5, none⟩ = some f ∧
    w.frozen? ⟨w0.heap.size, 0, none⟩ = false ∧ w.frozen? ⟨w0.heap.size, 1, none⟩ = false ∧ w.frozen? ⟨w0.heap.size, 2, none⟩ = false ∧ w.frozen? ⟨w0.heap.size, 3, none⟩ = false ∧ w.frozen? ⟨w0.heap.size, 4, none⟩ = false ∧ w.frozen? ⟨w0.heap.size, 5, none⟩ = false :=
  ⟨h.holds.cell 0, h.holds.cell 1, h.holds.cell 2, h.holds.cell 3, h.holds.cell 4, h.holds.cell 5, h.holds.soft 0, h.holds.soft 1, h.holds.soft 2, h.holds.soft 3, h.holds.soft 4, h.holds.soft 5⟩
theorem Box.fill {w0 w : World} {t : TypeId} {a b c d e f : Value} (h : Box w0 t #[a, b, c, d, e, f] w) (a' b' c' d' e' f' : Value) :
    Box w0 t #[a', b', c', d', e', f'] ((((((w.setCell ⟨w0.heap.size, 0, none⟩ a').setCell ⟨w0.heap.size, 1, none⟩ b').setCell ⟨w0.heap.size, 2, none⟩ c').setCell ⟨w0.heap.size, 3, none⟩ d').setCell ⟨w0.heap.size, 4, none⟩ e').setCell ⟨w0.heap.size, 5, none⟩ f') :=
  (((((h.put 0 a').put 1 b').put 2 c').put 3 d').put 4 e').put 5 f'
/-- A block that is made later is another one: what is stored there leaves the first one as it was. -/
theorem Box.aside {w0 w : World} {t : TypeId} {cs : Array Value} (h : Box w0 t cs w) {x : Nat} (hx : w0.heap.size < x) (r : Array Value) : Box w0 t cs (w.setRow x r) :=
  ⟨h.holds.grown (grown_row _ _ _) (fun e => by have := Option.some.inj e; omega), h.below.grown (grown_row _ _ _) h.below.size (fun k e => by have := Option.some.inj e; omega)⟩
end Go.Proofs.Ytmmdkafkfjfgnaa

/- Package leap: a table's text, by plain mathematics; dates, signs, lines. -/
namespace Go.Proofs.Ytmmdkafkfjfgnaa
open Go.RowKit
set_option linter.unusedVariables false
set_option linter.unusedSimpArgs false

theorem dates_from (k : Nat) : k ≤ 3652058 → ∃ y m d, CanD y m d ∧ numV y m d = -719162 + (k : Int) := by
  induction k with
  | zero =>
    intro _
    exact ⟨1, 1, 1, ⟨by decide, by decide, by decide, by decide, by decide, by decide⟩, by decide⟩
  | succ k ih =>
    intro hk
    obtain ⟨y, m, d, hc, hn⟩ := ih (by omega)
    have h9 : ¬ 9999 < (nextD y m d).1 := fun h => by
      have := next_far hc h
      omega
    refine ⟨_, _, _, next_can hc h9, ?_⟩
    rw [next_num hc, hn]
    omega
theorem date_ex {n : Int} (h1 : -719162 ≤ n) (h2 : n ≤ 2932896) : ∃ y m d, CanD y m d ∧ numV y m d = n := by
  obtain ⟨y, m, d, hc, hn⟩ := dates_from (n + 719162).toNat (by omega)
  exact ⟨y, m, d, hc, by omega⟩
/-- The text of a day's date. -/
noncomputable def dateB (n : Int) : ByteArray := open Classical in if h : ∃ p : Int × Int × Int, CanD p.1 p.2.1 p.2.2 ∧ numV p.1 p.2.1 p.2.2 = n then textB (Classical.choose h).1 (Classical.choose h).2.1 (Classical.choose h).2.2 else ⟨#[]⟩
theorem dateB_of {y m d : Int} (h : CanD y m d) : dateB (numV y m d) = textB y m d := by
  have hx : ∃ p : Int × Int × Int, CanD p.1 p.2.1 p.2.2 ∧ numV p.1 p.2.1 p.2.2 = numV y m d := ⟨(y, m, d), h, rfl⟩
  unfold dateB
  rw [dif_pos hx]
  have hs := Classical.choose_spec hx
  obtain ⟨e1, e2, e3⟩ := num_same hs.1 h hs.2
  rw [e1, e2, e3]
theorem dateB_size {n : Int} (h1 : -719162 ≤ n) (h2 : n ≤ 2932896) : (dateB n).size = 10 := by
  obtain ⟨y, m, d, hc, rfl⟩ := date_ex h1 h2
  rw [dateB_of hc, text_size]
theorem dayOf_date {n : Int} (h1 : -719162 ≤ n) (h2 : n ≤ 2932896) : dayOf (dateB n) = some n := by
  obtain ⟨y, m, d, hc, rfl⟩ := date_ex h1 h2
  rw [dateB_of hc, dayOf_yes (text_is hc)]
/-- A leap's sign. -/
def signB (s : Int) : ByteArray := if 0 < s then ⟨#[43, 49]⟩ else ⟨#[45, 49]⟩
theorem signB_size (s : Int) : (signB s).size = 2 := by
  unfold signB
  split <;> rfl
theorem app_list (a b : ByteArray) : (a ++ b).data.toList = a.data.toList ++ b.data.toList := by
  rw [ByteArray.data_append, Array.toList_append]
theorem app_size (a b : ByteArray) : (a ++ b).size = a.size + b.size := ByteArray.size_append ..
end Go.Proofs.Ytmmdkafkfjfgnaa

/- Package utc: with which second a day begins, how many it has, which one of it one is; Of. -/
namespace Go.Proofs.Ytmmdkafkfjfgnaa
open Go.RowKit
set_option linter.unusedSimpArgs false
set_option linter.unusedVariables false

section
variable {st ah en : Int} {L : List (Int × Int)}
theorem ubegin_yes (w : World) (q : Nat) (d : Int) (g : GTab st ah en L) (h : Rt w w.heap.size q ⟨st, ah, en, L⟩) (h1 : st ≤ d) (h2 : d < en) :
    Calls Try.prog 34 #[.pointer (some ⟨q, 0, none⟩), .int .i64 d] w fun e w' => e = .returned (.tuple #[.int .i64 (beginV ah L d), .bool true]) ∧ Below w.heap.size w w' := by
  have HA := Lib.hid (ahead_yes w q ⟨st, ah, en, L⟩ d h h1 h2 g.ones ⟨g.fine.a1, by have := g.fine.a2; show ah ≤ 1000; omega⟩)
  have b1 := g.lead d
  have s1 := g.fine.s1
  have e2 := g.fine.e2
  unfold beginV
  dsimp only at HA
  obtain ⟨A, hA⟩ : ∃ A, aheadL ah L d = A := ⟨_, rfl⟩
  rw [hA] at HA b1 ⊢
  have m1 := IntWalk.i64_in (86400 * d) (by omega)
  have m2 := IntWalk.i64_in (86400 * d + A) (by omega)
  clear hA b1 s1 e2 g h
  go_enter Try.func34, Try.ntmps34
  go_wp2_with (go_at_call 45; refine HA.out.mono ?_; rintro e w1 ⟨rfl, hb1⟩)
  go_ret2
  exact ⟨rfl, hb1⟩
theorem ubegin_no (w : World) (p : Option Addr) (d : Int) (h : Src w w.heap.size p st en L) (hd : d < st ∨ en ≤ d) :
    Calls Try.prog 34 #[.pointer p, .int .i64 d] w fun e w' => e = .returned (.tuple #[.int .i64 0, .bool false]) ∧ Below w.heap.size w w' := by
  have HA := Lib.hid (ahead_no w w.heap.size p st en L d h hd)
  clear h hd
  go_enter Try.func34, Try.ntmps34
  go_wp2_with (go_at_call 45; refine HA.out.mono ?_; rintro e w1 ⟨rfl, hb1⟩)
  go_ret2
  exact ⟨rfl, hb1⟩
theorem ulong_any (w : World) (p : Option Addr) (d : Int) (g : GTab st ah en L) (h : Src w w.heap.size p st en L) :
    Calls Try.prog 35 #[.pointer p, .int .i64 d] w fun e w' => e = .returned (.int .i64 (lenV L d)) ∧ Below w.heap.size w w' := by
  have HA := Lib.hid (step_any w p st en L d h)
  have l := g.len d
  unfold lenV at l ⊢
  obtain ⟨A, hA⟩ : ∃ A, stepL L d = A := ⟨_, rfl⟩
  rw [hA] at HA l ⊢
  have m1 := IntWalk.i64_in (86400 + A) (by omega)
  clear hA l g h
  go_enter Try.func35, Try.ntmps35
  go_wp2_with (go_at_call 46; refine HA.out.mono ?_; rintro e w1 ⟨rfl, hb1⟩)
  go_ret
  exact ⟨rfl, hb1⟩
end
theorem of_is {y m d : Int} (h : CanD y m d) (w : World) :
    Calls Try.prog 47 #[.int .i64 (numV y m d)] w fun e w' => e = .returned (.tuple #[.agg #[.int .i64 y, .int .i64 m, .int .i64 d], .bool true]) ∧ Below w.heap.size w w' := by
  have hb := num_bd h
  refine (of_yes (numV y m d) w hb.1 hb.2).mono ?_
  rintro e w' ⟨⟨y', m', d', k, hn, he⟩, hw⟩
  obtain ⟨rfl, rfl, rfl⟩ := num_same k h hn
  exact ⟨he, hw⟩
theorem uat_any {y m d : Int} (h : CanD y m d) (D s : Int) (hD : numV y m d = D) (h1 : 0 ≤ s) (h2 : s ≤ 86400) (w : World) :
    Calls Try.prog 36 #[.int .i64 D, .int .i64 s] w fun e w' => e = .returned (.agg #[.int .i64 y, .int .i64 m, .int .i64 d, .int .i64 (hV s), .int .i64 (mV s), .int .i64 (sV s)]) ∧ Below w.heap.size w w' := by
  subst hD
  have HO := Lib.hid (fun W => of_is h W)
  have HR := Lib.hid (Box.start w 67 #[.int .i64 0, .int .i64 0, .int .i64 0, .int .i64 0, .int .i64 0, .int .i64 0])
  have us : (Try.prog.info? 67).map (·.size) = some 6 := by kernel_rfl
  obtain ⟨N, hN⟩ : ∃ N, numV y m d = N := ⟨_, rfl⟩
  rw [hN] at HO ⊢
  clear hN h
  unfold hV mV sV
  by_cases hs : s = 86400
  · subst hs
    rw [if_pos rfl, if_pos rfl, if_pos rfl]
    go_enter Try.func36, Try.ntmps36
    go_wp2_with (go_at_call 47; refine (HO.out _).mono ?_; rintro e w1 ⟨rfl, hb1⟩; have HD := Lib.hid (Box.start w1 65 #[.int .i64 y, .int .i64 m, .int .i64 d]); obtain ⟨c0, c1, c2, _⟩ := HD.out.cells3; replace HR := Lib.hid ((HR.out.next hb1).next HD.out.below); obtain ⟨r0, r1, r2, r3, r4, r5, g0, g1, g2, g3, g4, g5⟩ := HR.out.six)
    refine bodyPost_ret (results_cell_row rfl _ _ w.heap.size 67 #[.int .i64 y, .int .i64 m, .int .i64 d, .int .i64 23, .int .i64 59, .int .i64 60] (0, 0) _ rfl (HR.out.fill _ _ _ _ _ _).holds Try.underlying67 rfl us) rfl ?_
    exact ⟨rfl, (HR.out.fill _ _ _ _ _ _).below⟩
  · rw [if_neg hs, if_neg hs, if_neg hs]
    have hb := beq_no hs
    have e1 := tdiv_of h1 3600
    have e2 := tmod_of h1 3600
    have e3 := tdiv_of (show 0 ≤ s % 3600 by omega) 60
    have e4 := tmod_of h1 60
    have e5 := IntWalk.i64_in (s / 3600) (by omega)
    have e6 := IntWalk.i64_in (s % 3600) (by omega)
    have e7 := IntWalk.i64_in (s % 3600 / 60) (by omega)
    have e8 := IntWalk.i64_in (s % 60) (by omega)
    go_enter Try.func36, Try.ntmps36
    go_wp2_with (go_at_call 47; refine (HO.out _).mono ?_; rintro e w1 ⟨rfl, hb1⟩; have HD := Lib.hid (Box.start w1 65 #[.int .i64 y, .int .i64 m, .int .i64 d]); obtain ⟨c0, c1, c2, _⟩ := HD.out.cells3; replace HR := Lib.hid ((HR.out.next hb1).next HD.out.below); obtain ⟨r0, r1, r2, r3, r4, r5, g0, g1, g2, g3, g4, g5⟩ := HR.out.six)
    refine bodyPost_ret (results_cell_row rfl _ _ w.heap.size 67 #[.int .i64 y, .int .i64 m, .int .i64 d, .int .i64 (s / 3600), .int .i64 (s % 3600 / 60), .int .i64 (s % 60)] (0, 0) _ rfl (HR.out.fill _ _ _ _ _ _).holds Try.underlying67 rfl us) rfl ?_
    exact ⟨rfl, (HR.out.fill _ _ _ _ _ _).below⟩
/-- What Of answers. -/
def OfPost (st ah en : Int) (L : List (Int × Int)) (tai : Int) (w : World) (e : Ending) (w' : World) : Prop :=
  ((∃ D y m d, OnDay st ah en L tai D ∧ CanD y m d ∧ numV y m d = D ∧ e = .returned (.tuple #[.agg #[.int .i64 y, .int .i64 m, .int .i64 d, .int .i64 (hV (tai - beginV ah L D)), .int .i64 (mV (tai - beginV ah L D)), .int .i64 (sV (tai - beginV ah L D))], .int .i64 0])) ∨
    ((¬ ∃ D, OnDay st ah en L tai D) ∧ e = .returned (.tuple #[.agg #[.int .i64 0, .int .i64 0, .int .i64 0, .int .i64 0, .int .i64 0, .int .i64 0], .int .i64 11]))) ∧ Below w.heap.size w w'
theorem utcs : (Try.prog.info? 67).map (·.size) = some 6 := by kernel_rfl
theorem uof_nil (tai : Int) (w : World) :
    Calls Try.prog 20 #[.pointer none, .int .i64 tai] w fun e w' => e = .returned (.tuple #[.agg #[.int .i64 0, .int .i64 0, .int .i64 0, .int .i64 0, .int .i64 0, .int .i64 0], .int .i64 2]) ∧ Below w.heap.size w w' := by
  have HR := Lib.hid (Box.start w 67 #[.int .i64 0, .int .i64 0, .int .i64 0, .int .i64 0, .int .i64 0, .int .i64 0])
  obtain ⟨r0, r1, r2, r3, r4, r5, g0, g1, g2, g3, g4, g5⟩ := HR.out.six
  go_enter Try.func20, Try.ntmps20
  go_wp2
  refine bodyPost_ret (results_row_tmp rfl _ _ w.heap.size 67 [.int .i64 0, .int .i64 0, .int .i64 0, .int .i64 0, .int .i64 0, .int .i64 0] _ _ rfl HR.out.holds Try.underlying67 rfl utcs rfl) rfl ?_
  exact ⟨rfl, HR.out.below⟩
theorem near_ix (N : Int) (k : Nat) (hk : k < 3) (W : World) : (Instr.index 96 (.agg #[.int .i64 (N - 1), .int .i64 N, .int .i64 (N + 1)]) (.int .i64 (k : Int))).run Try.prog W = .ok (.int .i64 (N - 1 + (k : Int))) W := by
  rcases (by omega : k = 0 ∨ k = 1 ∨ k = 2) with rfl | rfl | rfl
  · rw [show N - 1 + ((0 : Nat) : Int) = N - 1 by omega]; kernel_rfl
  · rw [show N - 1 + ((1 : Nat) : Int) = N by omega]; kernel_rfl
  · rw [show N - 1 + ((2 : Nat) : Int) = N + 1 by omega]; kernel_rfl
set_option maxHeartbeats 4000000 in
theorem uof_any (st ah en tai : Int) (L : List (Int × Int)) (q : Nat) (w : World) (g : GTab st ah en L) (h : Rt w w.heap.size q ⟨st, ah, en, L⟩) (ht : Fits tai) :
    Calls Try.prog 20 #[.pointer (some ⟨q, 0, none⟩), .int .i64 tai] w (OfPost st ah en L tai w) := by
  have HR := Lib.hid (Box.start w 67 #[.int .i64 0, .int .i64 0, .int .i64 0, .int .i64 0, .int .i64 0, .int .i64 0])
  have HF := Lib.hid (fun W => floor_yes tai 86400 W ht (by decide) (by decide))
  obtain ⟨t1, t2⟩ := ht
  have HG := Lib.hid g
  have HT := Lib.hid h
  obtain ⟨N, hN⟩ : ∃ N, tai / 86400 = N := ⟨_, rfl⟩
  have n1 : 86400 * N ≤ tai ∧ tai < 86400 * N + 86400 := by omega
  have HNR := Lib.hid (fun D (k : OnDay st ah en L tai D) => k.near g)
  rw [hN] at HF HNR
  have e1 := IntWalk.i64_in (N - 1) (by omega)
  have e2 := IntWalk.i64_in (N + 1) (by omega)
  have s1 := g.fine.s1
  have s2 := g.fine.e2
  clear hN h g
  go_enter Try.func20, Try.ntmps20
  go_wp2_with (go_at_call 24; refine (HF.out _).mono ?_; rintro e w1 ⟨rfl, n, hw1⟩; have HR1 := Lib.hid (show Box w 67 #[.int .i64 0, .int .i64 0, .int .i64 0, .int .i64 0, .int .i64 0, .int .i64 0] w1 by rw [hw1]; exact HR.out.drewN n); clear hw1)
  clear HF
  go_loopw [28] (fun i wr => ∃ k : Nat, k ≤ 3 ∧ i = .int .i64 (k : Int) ∧ (∀ j : Nat, j < k → ¬ OnDay st ah en L tai (N - 1 + (j : Int))) ∧ Box w 67 #[.int .i64 0, .int .i64 0, .int .i64 0, .int .i64 0, .int .i64 0, .int .i64 0] wr) (fun i _ => 3 - (intOf i).toNat)
  case atStart => exact ⟨0, by decide, rfl, fun j hj => absurd hj (Nat.not_lt_zero _), HR1.out⟩
  case round =>
    clear HR HR1
    obtain ⟨k, hk, rfl, hno, hx⟩ := hrel
    have HX := Lib.hid hx
    have HNO := Lib.hid hno
    clear hx hno
    by_cases hlt : k < 3
    · have hltI : decide ((k : Int) < 3) = true := decide_eq_true (by omega)
      have hix := near_ix N k hlt
      have ew := IntWalk.i64_in ((k : Int) + 1) (by omega)
      obtain ⟨D, hD⟩ : ∃ D, N - 1 + (k : Int) = D := ⟨_, rfl⟩
      rw [hD] at hix
      have HNX := Lib.hid (fun (hn : ¬ OnDay st ah en L tai D) (j : Nat) (hj : j < k + 1) => (show ¬ OnDay st ah en L tai (N - 1 + (j : Int)) from by
        rcases (by omega : j < k ∨ j = k) with h | rfl
        · exact HNO.out j h
        · rw [hD]; exact hn))
      have dn : N - 1 ≤ D ∧ D ≤ N + 1 := by omega
      clear hD
      by_cases hr : st ≤ D ∧ D < en
      · have HB := Lib.hid (fun W (hW : Box w 67 #[.int .i64 0, .int .i64 0, .int .i64 0, .int .i64 0, .int .i64 0, .int .i64 0] W) => ubegin_yes W q D HG.out ((HT.out.below hW.below).mono hW.below.size) hr.1 hr.2)
        have HL := Lib.hid (fun W (hW : Box w 67 #[.int .i64 0, .int .i64 0, .int .i64 0, .int .i64 0, .int .i64 0, .int .i64 0] W) => ulong_any W (some ⟨q, 0, none⟩) D HG.out (((HT.out.below hW.below).mono hW.below.size).src))
        have bb := HG.out.beg D
        have bl := HG.out.len D
        obtain ⟨B, hB⟩ : ∃ B, beginV ah L D = B := ⟨_, rfl⟩
        obtain ⟨C, hC⟩ : ∃ C, lenV L D = C := ⟨_, rfl⟩
        have HD := Lib.hid (show OnDay st ah en L tai D ↔ (B ≤ tai ∧ tai < B + C) from ⟨fun h => ⟨by rw [← hB]; exact h.b, by rw [← hB, ← hC]; exact h.e⟩, fun h => ⟨hr.1, hr.2, by rw [hB]; exact h.1, by rw [hB, hC]; exact h.2⟩⟩)
        rw [hB] at HB bb
        rw [hC] at HL bl
        have HBE := Lib.hid hB
        have e3 := IntWalk.i64_in (tai - B) (by omega)
        clear hB hC
        by_cases hle : B ≤ tai
        · have t1 : decide (B ≤ tai) = true := decide_eq_true hle
          by_cases hin : tai - B < C
          · have t2 : decide (tai - B < C) = true := decide_eq_true hin
            obtain ⟨y, m, d, hc, hn⟩ := date_ex (n := D) (by omega) (by omega)
            have HA := Lib.hid (fun W => uat_any hc D (tai - B) hn (by omega) (by omega) W)
            have HON := Lib.hid (HD.out.2 ⟨hle, by omega⟩)
            have HCN := Lib.hid (And.intro hc hn)
            have HEE := Lib.hid (show tai - beginV ah L D = tai - B by rw [HBE.out])
            clear hc hn hle hin
            obtain ⟨a, ha⟩ : ∃ a, hV (tai - B) = a := ⟨_, rfl⟩
            obtain ⟨b, hb⟩ : ∃ a, mV (tai - B) = a := ⟨_, rfl⟩
            obtain ⟨c, hc⟩ : ∃ a, sV (tai - B) = a := ⟨_, rfl⟩
            have HABC := Lib.hid (show hV (tai - beginV ah L D) = a ∧ mV (tai - beginV ah L D) = b ∧ sV (tai - beginV ah L D) = c by rw [HEE.out]; exact ⟨ha, hb, hc⟩)
            rw [ha, hb, hc] at HA
            clear ha hb hc HEE
            go_wp2_with (first
              | (go_at_call 34; with_reducible refine (HB.out _ HX.out).mono ?_; rintro e w2 ⟨rfl, hb2⟩; replace HX := Lib.hid (HX.out.next hb2); clear hb2)
              | (go_at_call 35; refine (HL.out _ HX.out).mono ?_; rintro e w3 ⟨rfl, hb3⟩; replace HX := Lib.hid (HX.out.next hb3); clear hb3)
              | (go_at_call 36; refine (HA.out _).mono ?_; rintro e w4 ⟨rfl, hb4⟩; replace HX := Lib.hid (HX.out.next hb4); clear hb4; obtain ⟨r0, r1, r2, r3, r4, r5, g0, g1, g2, g3, g4, g5⟩ := HX.out.six))
            refine bodyPost_ret (results_row_tmp rfl _ _ w.heap.size 67 [.int .i64 y, .int .i64 m, .int .i64 d, .int .i64 a, .int .i64 b, .int .i64 c] _ _ rfl (HX.out.fill _ _ _ _ _ _).holds Try.underlying67 rfl utcs rfl) rfl ?_
            obtain ⟨k1, k2, k3⟩ := HABC.out
            exact ⟨.inl ⟨D, y, m, d, HON.out, HCN.out.1, HCN.out.2, by rw [k1, k2, k3]; rfl⟩, (HX.out.fill _ _ _ _ _ _).below⟩
          · have t2 : decide (tai - B < C) = false := decide_eq_false hin
            have HN2 := Lib.hid (HNX.out (fun h => by have := HD.out.1 h; omega))
            go_wp2_with (first
              | (go_at_call 34; with_reducible refine (HB.out _ HX.out).mono ?_; rintro e w2 ⟨rfl, hb2⟩; replace HX := Lib.hid (HX.out.next hb2); clear hb2)
              | (go_at_call 35; refine (HL.out _ HX.out).mono ?_; rintro e w3 ⟨rfl, hb3⟩; replace HX := Lib.hid (HX.out.next hb3); clear hb3))
            go_roundw
            case rel => exact ⟨k + 1, by omega, by go_num, HN2.out, HX.out⟩
            case measure => simp [intOf]; omega
        · have t1 : decide (B ≤ tai) = false := decide_eq_false hle
          have HN2 := Lib.hid (HNX.out (fun h => by have := HD.out.1 h; omega))
          go_wp2_with (go_at_call 34; with_reducible refine (HB.out _ HX.out).mono ?_; rintro e w2 ⟨rfl, hb2⟩; replace HX := Lib.hid (HX.out.next hb2); clear hb2)
          go_roundw
          case rel => exact ⟨k + 1, by omega, by go_num, HN2.out, HX.out⟩
          case measure => simp [intOf]; omega
      · have HB := Lib.hid (fun W (hW : Box w 67 #[.int .i64 0, .int .i64 0, .int .i64 0, .int .i64 0, .int .i64 0, .int .i64 0] W) => ubegin_no W (some ⟨q, 0, none⟩) D (((HT.out.below hW.below).mono hW.below.size).src) (show D < st ∨ en ≤ D by omega))
        have HN2 := Lib.hid (HNX.out (fun h => hr ⟨h.lo, h.hi⟩))
        go_wp2_with (go_at_call 34; with_reducible refine (HB.out _ HX.out).mono ?_; rintro e w2 ⟨rfl, hb2⟩; replace HX := Lib.hid (HX.out.next hb2); clear hb2)
        go_roundw
        case rel => exact ⟨k + 1, by omega, by go_num, HN2.out, HX.out⟩
        case measure => simp [intOf]; omega
    · have hltI : decide ((k : Int) < 3) = false := decide_eq_false (by omega)
      have hk3 : k = 3 := by omega
      have HN2 := Lib.hid (show ¬ ∃ D, OnDay st ah en L tai D from fun ⟨D, h⟩ => by
        have hn := HNR.out D h
        have := HNO.out (D - N + 1).toNat (by omega)
        rw [show N - 1 + ((D - N + 1).toNat : Int) = D by omega] at this
        exact this h)
      clear hk3
      obtain ⟨r0, r1, r2, r3, r4, r5, g0, g1, g2, g3, g4, g5⟩ := HX.out.six
      go_wp2
      refine bodyPost_ret (results_row_tmp rfl _ _ w.heap.size 67 [.int .i64 0, .int .i64 0, .int .i64 0, .int .i64 0, .int .i64 0, .int .i64 0] _ _ rfl (HX.out.fill _ _ _ _ _ _).holds Try.underlying67 rfl utcs rfl) rfl ?_
      exact ⟨.inr ⟨HN2.out, rfl⟩, (HX.out.fill _ _ _ _ _ _).below⟩
end Go.Proofs.Ytmmdkafkfjfgnaa

/- Package utc: what laws meet of Of: seconds as structs compared; Of where the day is known. -/
namespace Go.Proofs.Ytmmdkafkfjfgnaa
open Go.RowKit
set_option linter.unusedVariables false
set_option linter.unusedSimpArgs false

section
variable (y m d H M S y' m' d' H' M' S' : Int) (W : World)
theorem utc_eq_same : (binOp .eql 67 (.agg #[.int .i64 y, .int .i64 m, .int .i64 d, .int .i64 H, .int .i64 M, .int .i64 S]) (.agg #[.int .i64 y, .int .i64 m, .int .i64 d, .int .i64 H, .int .i64 M, .int .i64 S])).run Try.prog W = .ok (.bool true) W := by
  go_simp
theorem utc_neq_same : (binOp .neq 67 (.agg #[.int .i64 y, .int .i64 m, .int .i64 d, .int .i64 H, .int .i64 M, .int .i64 S]) (.agg #[.int .i64 y, .int .i64 m, .int .i64 d, .int .i64 H, .int .i64 M, .int .i64 S])).run Try.prog W = .ok (.bool false) W := by
  go_simp
theorem utc_eq_other (h : ¬ ((y = y' ∧ m = m' ∧ d = d') ∧ (H = H' ∧ M = M' ∧ S = S'))) : (binOp .eql 67 (.agg #[.int .i64 y, .int .i64 m, .int .i64 d, .int .i64 H, .int .i64 M, .int .i64 S]) (.agg #[.int .i64 y', .int .i64 m', .int .i64 d', .int .i64 H', .int .i64 M', .int .i64 S'])).run Try.prog W = .ok (.bool false) W := by
  have H := Lib.hid h
  clear h
  go_simp
  intro h0 h1 h2 h3 h4 h5
  exact H.out ⟨⟨h0, h1, h2⟩, ⟨h3, h4, h5⟩⟩
end
section
variable {st ah en : Int} {L : List (Int × Int)}
theorem gtab_of (h : faultT st ah en L = 0) : GTab st ah en L := by
  obtain ⟨a, b, c, d⟩ := fault_few h
  exact ⟨a, b, c, d⟩
/-- A second of UTC is the one that one of TAI is. -/
structure IsOf (st ah en : Int) (L : List (Int × Int)) (tai y m d H M S : Int) : Prop where
  day : OnDay st ah en L tai (numV y m d)
  can : CanD y m d
  time : CanT H M S
  sec : secV H M S = tai - beginV ah L (numV y m d)
theorem isOf_ex {tai D : Int} (g : GTab st ah en L) (h : OnDay st ah en L tai D) : ∃ y m d H M S, IsOf st ah en L tai y m d H M S := by
  obtain ⟨y, m, d, hc, hn⟩ := date_ex (n := D) (by have := h.lo; have := g.fine.s1; omega) (by have := h.hi; have := g.fine.e2; omega)
  subst hn
  have s := h.sec g
  exact ⟨y, m, d, _, _, _, h, hc, hms_can s.1 s.2.1, hms_sec s.1 s.2.1⟩
theorem of_hit {tai y m d H M S : Int} (g : GTab st ah en L) (h : IsOf st ah en L tai y m d H M S) (hf : Fits tai) (q : Nat) (W : World) (hr : Rt W W.heap.size q ⟨st, ah, en, L⟩) :
    Calls Try.prog 20 #[.pointer (some ⟨q, 0, none⟩), .int .i64 tai] W fun e w' => e = .returned (.tuple #[.agg #[.int .i64 y, .int .i64 m, .int .i64 d, .int .i64 H, .int .i64 M, .int .i64 S], .int .i64 0]) ∧ Below W.heap.size W w' := by
  refine (uof_any st ah en tai L q W g hr hf).mono ?_
  rintro e w' ⟨⟨D, y', m', d', ho, hc, hn, he⟩ | ⟨hn, _⟩, hb⟩
  · have hD := ho.one g h.day
    subst hD
    obtain ⟨rfl, rfl, rfl⟩ := num_same hc h.can hn
    obtain ⟨e1, e2, e3⟩ := sec_hms h.time
    rw [← h.sec, e1, e2, e3] at he
    exact ⟨he, hb⟩
  · exact absurd ⟨_, h.day⟩ hn
theorem of_miss {tai : Int} (g : GTab st ah en L) (h : ¬ ∃ D, OnDay st ah en L tai D) (hf : Fits tai) (q : Nat) (W : World) (hr : Rt W W.heap.size q ⟨st, ah, en, L⟩) :
    Calls Try.prog 20 #[.pointer (some ⟨q, 0, none⟩), .int .i64 tai] W fun e w' => e = .returned (.tuple #[.agg #[.int .i64 0, .int .i64 0, .int .i64 0, .int .i64 0, .int .i64 0, .int .i64 0], .int .i64 11]) ∧ Below W.heap.size W w' := by
  refine (uof_any st ah en tai L q W g hr hf).mono ?_
  rintro e w' ⟨⟨D, y', m', d', ho, _⟩ | ⟨_, he⟩, hb⟩
  · exact absurd ⟨_, ho⟩ h
  · exact ⟨he, hb⟩
theorem isOf_one {a b y m d H M S : Int} (g : GTab st ah en L) (h : IsOf st ah en L a y m d H M S) (h' : IsOf st ah en L b y m d H M S) : a = b := by
  have h1 := h.sec
  have h2 := h'.sec
  omega
theorem of_num {y m d D : Int} (hc : CanD y m d) (hn : numV y m d = D) (w : World) :
    Calls Try.prog 47 #[.int .i64 D] w fun e w' => e = .returned (.tuple #[.agg #[.int .i64 y, .int .i64 m, .int .i64 d], .bool true]) ∧ Below w.heap.size w w' := by
  subst hn
  exact of_is hc w
end
end Go.Proofs.Ytmmdkafkfjfgnaa

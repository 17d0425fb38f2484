/- Package civil, mathematics of texts: a date's text is its own, and no other; later dates have greater texts. -/
import Derived.Test.YtcknllkbeadmlaaDoorCvP
namespace Go.Proofs.YtcknllkbeadmlaaDoor
set_option linter.unusedSimpArgs false
set_option linter.unusedVariables false

theorem list_len (s : ByteArray) : s.data.toList.length = s.size := by rw [Array.length_toList]; rfl
theorem dg_nat (u j : Nat) : (Lib.dg u j).toNat = 48 + u / 10 ^ j % 10 := by
  unfold Lib.dg
  rw [UInt8.toNat_ofNat']
  omega
/-- A date's text, byte by byte. -/
theorem text_list (y m d : Int) : (textB y m d).data.toList = [Lib.dg y.toNat 3, Lib.dg y.toNat 2, Lib.dg y.toNat 1, Lib.dg y.toNat 0, 45, Lib.dg m.toNat 1, Lib.dg m.toNat 0, 45, Lib.dg d.toNat 1, Lib.dg d.toNat 0] := by
  unfold textB digB
  simp only [ByteArray.data_append, Array.toList_append]
  rfl
theorem text_size (y m d : Int) : (textB y m d).size = 10 := by
  rw [← list_len, text_list]
  rfl
theorem text_byt (y m d : Int) (j : Nat) : byt (textB y m d) j = (([Lib.dg y.toNat 3, Lib.dg y.toNat 2, Lib.dg y.toNat 1, Lib.dg y.toNat 0, 45, Lib.dg m.toNat 1, Lib.dg m.toNat 0, 45, Lib.dg d.toNat 1, Lib.dg d.toNat 0].getD j 0).toNat : Int) := by
  unfold byt
  rw [text_list]
theorem text_is {y m d : Int} (h : CanD y m d) : IsDate (textB y m d) y m d := by
  have b0 : byt (textB y m d) 0 = 48 + (y.toNat / 10 ^ 3 % 10 : Nat) := by rw [text_byt]; show ((Lib.dg y.toNat 3).toNat : Int) = _; rw [dg_nat]; omega
  have b1 : byt (textB y m d) 1 = 48 + (y.toNat / 10 ^ 2 % 10 : Nat) := by rw [text_byt]; show ((Lib.dg y.toNat 2).toNat : Int) = _; rw [dg_nat]; omega
  have b2 : byt (textB y m d) 2 = 48 + (y.toNat / 10 ^ 1 % 10 : Nat) := by rw [text_byt]; show ((Lib.dg y.toNat 1).toNat : Int) = _; rw [dg_nat]; omega
  have b3 : byt (textB y m d) 3 = 48 + (y.toNat / 10 ^ 0 % 10 : Nat) := by rw [text_byt]; show ((Lib.dg y.toNat 0).toNat : Int) = _; rw [dg_nat]; omega
  have b4 : byt (textB y m d) 4 = 45 := by rw [text_byt]; rfl
  have b5 : byt (textB y m d) 5 = 48 + (m.toNat / 10 ^ 1 % 10 : Nat) := by rw [text_byt]; show ((Lib.dg m.toNat 1).toNat : Int) = _; rw [dg_nat]; omega
  have b6 : byt (textB y m d) 6 = 48 + (m.toNat / 10 ^ 0 % 10 : Nat) := by rw [text_byt]; show ((Lib.dg m.toNat 0).toNat : Int) = _; rw [dg_nat]; omega
  have b7 : byt (textB y m d) 7 = 45 := by rw [text_byt]; rfl
  have b8 : byt (textB y m d) 8 = 48 + (d.toNat / 10 ^ 1 % 10 : Nat) := by rw [text_byt]; show ((Lib.dg d.toNat 1).toNat : Int) = _; rw [dg_nat]; omega
  have b9 : byt (textB y m d) 9 = 48 + (d.toNat / 10 ^ 0 % 10 : Nat) := by rw [text_byt]; show ((Lib.dg d.toNat 0).toNat : Int) = _; rw [dg_nat]; omega
  have h1 := h.y1
  have h2 := h.y2
  have h3 := h.m1
  have h4 := h.m2
  have h5 := h.d1
  have h6 := h.d2
  have h7 := (days_bd y m).2
  refine ⟨text_size y m d, fun j hj => ?_, ?_, ?_, ?_, h⟩
  · have hc : j = 0 ∨ j = 1 ∨ j = 2 ∨ j = 3 ∨ j = 4 ∨ j = 5 ∨ j = 6 ∨ j = 7 ∨ j = 8 ∨ j = 9 := by omega
    rcases hc with rfl | rfl | rfl | rfl | rfl | rfl | rfl | rfl | rfl | rfl <;> unfold confB
    · rw [if_neg (by decide), b0]; omega
    · rw [if_neg (by decide), b1]; omega
    · rw [if_neg (by decide), b2]; omega
    · rw [if_neg (by decide), b3]; omega
    · rw [if_pos (by decide), b4]
    · rw [if_neg (by decide), b5]; omega
    · rw [if_neg (by decide), b6]; omega
    · rw [if_pos (by decide), b7]
    · rw [if_neg (by decide), b8]; omega
    · rw [if_neg (by decide), b9]; omega
  · show y = (((0 * 10 + (byt (textB y m d) 0 - 48)) * 10 + (byt (textB y m d) 1 - 48)) * 10 + (byt (textB y m d) 2 - 48)) * 10 + (byt (textB y m d) 3 - 48)
    rw [b0, b1, b2, b3]
    omega
  · show m = (0 * 10 + (byt (textB y m d) 5 - 48)) * 10 + (byt (textB y m d) 6 - 48)
    rw [b5, b6]
    omega
  · show d = (0 * 10 + (byt (textB y m d) 8 - 48)) * 10 + (byt (textB y m d) 9 - 48)
    rw [b8, b9]
    omega
theorem byte_eq {b c : UInt8} (h : (b.toNat : Int) = (c.toNat : Int)) : b = c := UInt8.toNat_inj.1 (by omega)
theorem is_text {s : ByteArray} {y m d : Int} (h : IsDate s y m d) : textB y m d = s := by
  have hs : ∀ j, j < 10 → ∃ b, s.data.toList[j]? = some b ∧ byt s j = (b.toNat : Int) := fun j hj => by
    have hl : j < s.data.toList.length := by rw [list_len, h.ten]; exact hj
    refine ⟨s.data.toList[j], List.getElem?_eq_getElem hl, ?_⟩
    unfold byt
    rw [List.getD_eq_getElem?_getD, List.getElem?_eq_getElem hl]
    rfl
  have hc : ∀ j, j < 10 → j ≠ 4 → j ≠ 7 → 48 ≤ byt s j ∧ byt s j ≤ 57 := fun j h1 h2 h3 => by
    have := h.conf j h1
    unfold confB at this
    rw [if_neg (by omega)] at this
    exact this
  have h4 : byt s 4 = 45 := by have := h.conf 4 (by decide); unfold confB at this; rwa [if_pos (by decide)] at this
  have h7 : byt s 7 = 45 := by have := h.conf 7 (by decide); unfold confB at this; rwa [if_pos (by decide)] at this
  have hy : y = (((0 * 10 + (byt s 0 - 48)) * 10 + (byt s 1 - 48)) * 10 + (byt s 2 - 48)) * 10 + (byt s 3 - 48) := h.y_eq
  have hm : m = (0 * 10 + (byt s 5 - 48)) * 10 + (byt s 6 - 48) := h.m_eq
  have hd : d = (0 * 10 + (byt s 8 - 48)) * 10 + (byt s 9 - 48) := h.d_eq
  have c0 := hc 0 (by decide) (by decide) (by decide)
  have c1 := hc 1 (by decide) (by decide) (by decide)
  have c2 := hc 2 (by decide) (by decide) (by decide)
  have c3 := hc 3 (by decide) (by decide) (by decide)
  have c5 := hc 5 (by decide) (by decide) (by decide)
  have c6 := hc 6 (by decide) (by decide) (by decide)
  have c8 := hc 8 (by decide) (by decide) (by decide)
  have c9 := hc 9 (by decide) (by decide) (by decide)
  have hlist : (textB y m d).data.toList = s.data.toList := by
    refine List.ext_getElem? fun j => ?_
    by_cases hj : j < 10
    · obtain ⟨b, e1, e2⟩ := hs j hj
      rw [e1, text_list]
      have hcs : j = 0 ∨ j = 1 ∨ j = 2 ∨ j = 3 ∨ j = 4 ∨ j = 5 ∨ j = 6 ∨ j = 7 ∨ j = 8 ∨ j = 9 := by omega
      rcases hcs with rfl | rfl | rfl | rfl | rfl | rfl | rfl | rfl | rfl | rfl
      · refine congrArg some (byte_eq (?_ : ((Lib.dg y.toNat 3).toNat : Int) = _)); rw [dg_nat, ← e2]; omega
      · refine congrArg some (byte_eq (?_ : ((Lib.dg y.toNat 2).toNat : Int) = _)); rw [dg_nat, ← e2]; omega
      · refine congrArg some (byte_eq (?_ : ((Lib.dg y.toNat 1).toNat : Int) = _)); rw [dg_nat, ← e2]; omega
      · refine congrArg some (byte_eq (?_ : ((Lib.dg y.toNat 0).toNat : Int) = _)); rw [dg_nat, ← e2]; omega
      · refine congrArg some (byte_eq (?_ : ((45 : UInt8).toNat : Int) = _)); rw [← e2, h4]; rfl
      · refine congrArg some (byte_eq (?_ : ((Lib.dg m.toNat 1).toNat : Int) = _)); rw [dg_nat, ← e2]; omega
      · refine congrArg some (byte_eq (?_ : ((Lib.dg m.toNat 0).toNat : Int) = _)); rw [dg_nat, ← e2]; omega
      · refine congrArg some (byte_eq (?_ : ((45 : UInt8).toNat : Int) = _)); rw [← e2, h7]; rfl
      · refine congrArg some (byte_eq (?_ : ((Lib.dg d.toNat 1).toNat : Int) = _)); rw [dg_nat, ← e2]; omega
      · refine congrArg some (byte_eq (?_ : ((Lib.dg d.toNat 0).toNat : Int) = _)); rw [dg_nat, ← e2]; omega
    · rw [List.getElem?_eq_none (by rw [text_list]; simpa using hj), List.getElem?_eq_none (by rw [list_len, h.ten]; omega)]
  exact ByteArray.ext (Array.toList_inj.1 hlist)
theorem text_one {y m d y' m' d' : Int} (h : CanD y m d) (h' : CanD y' m' d') (e : textB y m d = textB y' m' d') : y = y' ∧ m = m' ∧ d = d' := by
  have k := text_is h
  have k' := text_is h'
  rw [← e] at k'
  exact ⟨k.y_eq.trans k'.y_eq.symm, k.m_eq.trans k'.m_eq.symm, k.d_eq.trans k'.d_eq.symm⟩
theorem less_byte (a b : Nat) (j : Nat) (X Y : List UInt8) (Z : Prop) (h : Op.bytesLess X Y = true ↔ Z) :
    Op.bytesLess (Lib.dg a j :: X) (Lib.dg b j :: Y) = true ↔ a / 10 ^ j % 10 < b / 10 ^ j % 10 ∨ (a / 10 ^ j % 10 = b / 10 ^ j % 10 ∧ Z) := by
  have e : Op.bytesLess (Lib.dg a j :: X) (Lib.dg b j :: Y) = (decide (Lib.dg a j < Lib.dg b j) || (Lib.dg a j == Lib.dg b j && Op.bytesLess X Y)) := rfl
  rw [e, Bool.or_eq_true, Bool.and_eq_true, h, decide_eq_true_iff, beq_iff_eq, UInt8.lt_iff_toNat_lt, ← UInt8.toNat_inj, dg_nat, dg_nat]
  constructor
  · rintro (g | ⟨g, k⟩)
    · exact .inl (by omega)
    · exact .inr ⟨by omega, k⟩
  · rintro (g | ⟨g, k⟩)
    · exact .inl (by omega)
    · exact .inr ⟨by omega, k⟩
theorem less_same (c : UInt8) (X Y : List UInt8) : Op.bytesLess (c :: X) (c :: Y) = Op.bytesLess X Y := by
  have e : Op.bytesLess (c :: X) (c :: Y) = (decide (c < c) || (c == c && Op.bytesLess X Y)) := rfl
  rw [e]
  simp
theorem lex_step {p q r t : Nat} {Z : Prop} (h1 : r < 10) (h2 : t < 10) : (p < q ∨ (p = q ∧ (r < t ∨ (r = t ∧ Z)))) ↔ (10 * p + r < 10 * q + t ∨ (10 * p + r = 10 * q + t ∧ Z)) := by
  by_cases hz : Z <;> simp only [hz, and_true, and_false, or_false] <;> omega
theorem lex_four {a b : Nat} (ha : a < 10000) (hb : b < 10000) (Z : Prop) : (a / 10 ^ 3 % 10 < b / 10 ^ 3 % 10 ∨ (a / 10 ^ 3 % 10 = b / 10 ^ 3 % 10 ∧ (a / 10 ^ 2 % 10 < b / 10 ^ 2 % 10 ∨ (a / 10 ^ 2 % 10 = b / 10 ^ 2 % 10 ∧ (a / 10 ^ 1 % 10 < b / 10 ^ 1 % 10 ∨ (a / 10 ^ 1 % 10 = b / 10 ^ 1 % 10 ∧ (a / 10 ^ 0 % 10 < b / 10 ^ 0 % 10 ∨ (a / 10 ^ 0 % 10 = b / 10 ^ 0 % 10 ∧ Z)))))))) ↔ (a < b ∨ (a = b ∧ Z)) := by
  have f : ∀ x : Nat, x < 10000 → 10 * (x / 10 ^ 3 % 10) + x / 10 ^ 2 % 10 = x / 100 := fun x hx => by omega
  have g : ∀ x : Nat, x < 10000 → 10 * (x / 100) + x / 10 ^ 1 % 10 = x / 10 := fun x hx => by omega
  have k : ∀ x : Nat, x < 10000 → 10 * (x / 10) + x / 10 ^ 0 % 10 = x := fun x hx => by omega
  rw [lex_step (Nat.mod_lt _ (by decide)) (Nat.mod_lt _ (by decide)), f a ha, f b hb, lex_step (Nat.mod_lt _ (by decide)) (Nat.mod_lt _ (by decide)), g a ha, g b hb, lex_step (Nat.mod_lt _ (by decide)) (Nat.mod_lt _ (by decide)), k a ha, k b hb]
theorem less_text {y m d y' m' d' : Int} (h : CanD y m d) (h' : CanD y' m' d') : Op.bytesLess (textB y m d).data.toList (textB y' m' d').data.toList = laterD y' m' d' y m d := by
  have k1 := h.y1
  have k2 := h.y2
  have k3 := h.m1
  have k4 := h.m2
  have k5 := h.d1
  have k6 := h.d2
  have k7 := (days_bd y m).2
  have l1 := h'.y1
  have l2 := h'.y2
  have l3 := h'.m1
  have l4 := h'.m2
  have l5 := h'.d1
  have l6 := h'.d2
  have l7 := (days_bd y' m').2
  rw [text_list, text_list, Bool.eq_iff_iff]
  have z : Op.bytesLess [] [] = true ↔ False := by simp [Op.bytesLess]
  have d0 := less_byte d.toNat d'.toNat 0 [] [] _ z
  have d1 := less_byte d.toNat d'.toNat 1 _ _ _ d0
  rw [← less_same 45] at d1
  have m0 := less_byte m.toNat m'.toNat 0 _ _ _ d1
  have m1 := less_byte m.toNat m'.toNat 1 _ _ _ m0
  rw [← less_same 45] at m1
  have y0 := less_byte y.toNat y'.toNat 0 _ _ _ m1
  have y1 := less_byte y.toNat y'.toNat 1 _ _ _ y0
  have y2 := less_byte y.toNat y'.toNat 2 _ _ _ y1
  have y3 := less_byte y.toNat y'.toNat 3 _ _ _ y2
  rw [y3]
  have ed : (d.toNat / 10 ^ 1 % 10 < d'.toNat / 10 ^ 1 % 10 ∨ (d.toNat / 10 ^ 1 % 10 = d'.toNat / 10 ^ 1 % 10 ∧ (d.toNat / 10 ^ 0 % 10 < d'.toNat / 10 ^ 0 % 10 ∨ (d.toNat / 10 ^ 0 % 10 = d'.toNat / 10 ^ 0 % 10 ∧ False)))) ↔ d < d' := by simp only [and_false, or_false]; omega
  rw [ed]
  have em : ∀ Z : Prop, (m.toNat / 10 ^ 1 % 10 < m'.toNat / 10 ^ 1 % 10 ∨ (m.toNat / 10 ^ 1 % 10 = m'.toNat / 10 ^ 1 % 10 ∧ (m.toNat / 10 ^ 0 % 10 < m'.toNat / 10 ^ 0 % 10 ∨ (m.toNat / 10 ^ 0 % 10 = m'.toNat / 10 ^ 0 % 10 ∧ Z)))) ↔ (m < m' ∨ (m = m' ∧ Z)) := fun Z => by
    by_cases hz : Z <;> simp only [hz, and_true, and_false, or_false] <;> omega
  rw [em]
  rw [lex_four (by omega) (by omega)]
  unfold laterD
  simp only [Bool.or_eq_true, Bool.and_eq_true, decide_eq_true_iff]
  omega
end Go.Proofs.YtcknllkbeadmlaaDoor

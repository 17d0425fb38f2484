/- Package utc, mathematics: hours, minutes and seconds; the seconds of a table's days; a second's text, its order, its reading. Nothing here speaks of one program. -/
import Derived.Test.YtcknllkbeadmlaaDoorLpR
import Derived.Test.YtcknllkbeadmlaaDoorLpL
import Derived.Test.YtcknllkbeadmlaaDoorCvX
namespace Go.Proofs.YtcknllkbeadmlaaDoor
set_option linter.unusedSimpArgs false
set_option linter.unusedVariables false

/-- Can an hour, a minute, a second be those of some day? -/
structure CanT (H M S : Int) : Prop where
  h1 : 0 ≤ H
  h2 : H ≤ 23
  m1 : 0 ≤ M
  m2 : M ≤ 59
  s1 : 0 ≤ S
  s2 : S ≤ 59 ∨ (S = 60 ∧ H = 23 ∧ M = 59)
def goodT (H M S : Int) : Bool := decide (0 ≤ H ∧ H ≤ 23 ∧ 0 ≤ M ∧ M ≤ 59 ∧ 0 ≤ S ∧ (S ≤ 59 ∨ (S = 60 ∧ H = 23 ∧ M = 59)))
theorem goodT_yes {H M S : Int} (h : CanT H M S) : goodT H M S = true := decide_eq_true ⟨h.h1, h.h2, h.m1, h.m2, h.s1, h.s2⟩
theorem goodT_no {H M S : Int} (h : ¬ CanT H M S) : goodT H M S = false := decide_eq_false fun ⟨a, b, c, e, f, g⟩ => h ⟨a, b, c, e, f, g⟩
theorem not_canT {H M S : Int} (h : ¬ CanT H M S) : H < 0 ∨ (0 ≤ H ∧ 23 < H) ∨ (0 ≤ H ∧ H ≤ 23 ∧ M < 0) ∨ (0 ≤ H ∧ H ≤ 23 ∧ 0 ≤ M ∧ 59 < M) ∨ (0 ≤ H ∧ H ≤ 23 ∧ 0 ≤ M ∧ M ≤ 59 ∧ S < 0) ∨ (0 ≤ H ∧ H ≤ 23 ∧ 0 ≤ M ∧ M ≤ 59 ∧ 60 < S) ∨ (0 ≤ H ∧ H ≤ 22 ∧ 0 ≤ M ∧ M ≤ 59 ∧ S = 60) ∨ (H = 23 ∧ 0 ≤ M ∧ M ≤ 58 ∧ S = 60) :=
  Classical.byContradiction fun g => h ⟨by omega, by omega, by omega, by omega, by omega, by omega⟩
/-- Can all six numbers be a second? -/
def goodU (y m d H M S : Int) : Bool := goodD y m d && goodT H M S
theorem goodU_yes {y m d H M S : Int} (h : CanD y m d) (k : CanT H M S) : goodU y m d H M S = true := by unfold goodU; rw [goodD_yes h, goodT_yes k]; rfl
theorem goodU_no {y m d H M S : Int} (h : ¬ (CanD y m d ∧ CanT H M S)) : goodU y m d H M S = false := by
  unfold goodU
  by_cases k : CanD y m d
  · rw [goodT_no (fun t => h ⟨k, t⟩)]
    exact Bool.and_false _
  · rw [goodD_no k]
    rfl
/-- Which second of its day. -/
def secV (H M S : Int) : Int := 3600 * H + 60 * M + S
theorem sec_bd' {H M S : Int} (h : CanT H M S) : 0 ≤ secV H M S ∧ secV H M S ≤ 86400 := by
  obtain ⟨a, b, c, e, f, g⟩ := h
  unfold secV
  omega
theorem sec_lt {H M S H' M' S' : Int} (h : CanT H M S) (h' : CanT H' M' S') : (H < H' ∨ (H = H' ∧ (M < M' ∨ (M = M' ∧ S < S')))) ↔ secV H M S < secV H' M' S' := by
  obtain ⟨a, b, c, e, f, g⟩ := h
  obtain ⟨a', b', c', e', f', g'⟩ := h'
  unfold secV
  omega
theorem sec_one {H M S H' M' S' : Int} (h : CanT H M S) (h' : CanT H' M' S') (e : secV H M S = secV H' M' S') : H = H' ∧ M = M' ∧ S = S' := by
  have k := sec_lt h h'
  have k' := sec_lt h' h
  rw [e] at k k'
  have n := fun t => Int.lt_irrefl _ (k.1 t)
  have n' := fun t => Int.lt_irrefl _ (k'.1 t)
  omega
/-- The hour, the minute, the second of the s-th one of a day. -/
def hV (s : Int) : Int := if s = 86400 then 23 else s / 3600
def mV (s : Int) : Int := if s = 86400 then 59 else s % 3600 / 60
def sV (s : Int) : Int := if s = 86400 then 60 else s % 60
theorem hms_can {s : Int} (h1 : 0 ≤ s) (h2 : s ≤ 86400) : CanT (hV s) (mV s) (sV s) := by
  unfold hV mV sV
  by_cases h : s = 86400
  · rw [if_pos h, if_pos h, if_pos h]
    exact ⟨by decide, by decide, by decide, by decide, by decide, .inr ⟨rfl, rfl, rfl⟩⟩
  · rw [if_neg h, if_neg h, if_neg h]
    exact ⟨by omega, by omega, by omega, by omega, by omega, by omega⟩
theorem hms_sec {s : Int} (h1 : 0 ≤ s) (h2 : s ≤ 86400) : secV (hV s) (mV s) (sV s) = s := by
  unfold hV mV sV secV
  by_cases h : s = 86400
  · rw [if_pos h, if_pos h, if_pos h, h]
    decide
  · rw [if_neg h, if_neg h, if_neg h]
    omega
theorem sec_hms {H M S : Int} (h : CanT H M S) : hV (secV H M S) = H ∧ mV (secV H M S) = M ∧ sV (secV H M S) = S := by
  have b := sec_bd' h
  exact sec_one (hms_can b.1 b.2) h (hms_sec b.1 b.2)

/-- A table that can be. -/
structure GTab (st ah en : Int) (L : List (Int × Int)) : Prop where
  fine : FineR st ah en
  ones : Ones L
  few : L.length ≤ 64
  ord : OrdL st en L
/-- With which second of TAI a day begins; how many it has. -/
def beginV (ah : Int) (L : List (Int × Int)) (d : Int) : Int := 86400 * d + aheadL ah L d
def lenV (L : List (Int × Int)) (d : Int) : Int := 86400 + stepL L d
section
variable {st ah en : Int} {L : List (Int × Int)}
theorem GTab.next (h : GTab st ah en L) (d : Int) : beginV ah L (d + 1) = beginV ah L d + lenV L d := by
  unfold beginV lenV
  rw [aheadL_next L ah d h.ord.2]
  omega
theorem GTab.len (h : GTab st ah en L) (d : Int) : 86399 ≤ lenV L d ∧ lenV L d ≤ 86401 := by
  have := stepL_mem (d := d) h.ones
  unfold lenV
  omega
theorem GTab.lead (h : GTab st ah en L) (d : Int) : -64 ≤ aheadL ah L d ∧ aheadL ah L d ≤ 163 := by
  have := aheadL_bd L ah d h.ones
  have := h.few
  have := h.fine.a1
  have := h.fine.a2
  omega
theorem GTab.beg (h : GTab st ah en L) (d : Int) : 86400 * d - 64 ≤ beginV ah L d ∧ beginV ah L d ≤ 86400 * d + 163 := by
  have := h.lead d
  unfold beginV
  omega
theorem GTab.from (h : GTab st ah en L) (d : Int) (k : Nat) : beginV ah L d + lenV L d ≤ beginV ah L (d + 1 + k) := by
  induction k with
  | zero =>
    rw [← h.next d]
    simp
  | succ k ih =>
    have e := h.next (d + 1 + k)
    have l := (h.len (d + 1 + k)).1
    have : d + 1 + ((k + 1 : Nat) : Int) = d + 1 + k + 1 := by omega
    rw [this]
    omega
theorem GTab.after (h : GTab st ah en L) {d d' : Int} (hl : d < d') : beginV ah L d + lenV L d ≤ beginV ah L d' := by
  have := h.from d (d' - d - 1).toNat
  have e : d + 1 + ((d' - d - 1).toNat : Int) = d' := by omega
  rwa [e] at this
theorem GTab.le (h : GTab st ah en L) {d d' : Int} (hl : d ≤ d') : beginV ah L d ≤ beginV ah L d' := by
  rcases Int.le_iff_lt_or_eq.1 hl with k | rfl
  · have := h.after k
    have := (h.len d).1
    omega
  · exact Int.le_refl _
end
/-- Is a second of TAI one of a day, of which the table tells? -/
structure OnDay (st ah en : Int) (L : List (Int × Int)) (tai d : Int) : Prop where
  lo : st ≤ d
  hi : d < en
  b : beginV ah L d ≤ tai
  e : tai < beginV ah L d + lenV L d
section
variable {st ah en : Int} {L : List (Int × Int)} {a b d d' : Int}
theorem OnDay.one (g : GTab st ah en L) (h : OnDay st ah en L a d) (h' : OnDay st ah en L a d') : d = d' := by
  refine Classical.byContradiction fun n => ?_
  rcases (by omega : d < d' ∨ d' < d) with k | k
  · have := g.after k
    have := h.e
    have := h'.b
    omega
  · have := g.after k
    have := h'.e
    have := h.b
    omega
theorem OnDay.near (g : GTab st ah en L) (h : OnDay st ah en L a d) : d = a / 86400 - 1 ∨ d = a / 86400 ∨ d = a / 86400 + 1 := by
  have := g.beg d
  have := g.len d
  have := h.b
  have := h.e
  omega
theorem OnDay.sec (g : GTab st ah en L) (h : OnDay st ah en L a d) : 0 ≤ a - beginV ah L d ∧ a - beginV ah L d ≤ 86400 ∧ a - beginV ah L d < lenV L d := by
  have := g.len d
  have := h.b
  have := h.e
  omega
theorem OnDay.lt (g : GTab st ah en L) (h : OnDay st ah en L a d) (h' : OnDay st ah en L b d') : a < b ↔ (d < d' ∨ (d = d' ∧ a - beginV ah L d < b - beginV ah L d')) := by
  have h1 := h.b
  have h2 := h.e
  have h3 := h'.b
  have h4 := h'.e
  rcases (by omega : d < d' ∨ d = d' ∨ d' < d) with k | rfl | k
  · have := g.after k
    omega
  · omega
  · have := g.after k
    omega
/-- Who lies outside of all days. -/
theorem on_below (g : GTab st ah en L) (h : a < beginV ah L st) : ¬ ∃ d, OnDay st ah en L a d := by
  rintro ⟨d, k⟩
  have := g.le k.lo
  have := k.b
  omega
theorem on_above (g : GTab st ah en L) (h : beginV ah L (en - 1) + lenV L (en - 1) ≤ a) : ¬ ∃ d, OnDay st ah en L a d := by
  rintro ⟨d, k⟩
  have k1 := k.hi
  have k2 := k.e
  rcases (by omega : d < en - 1 ∨ d = en - 1) with j | rfl
  · have := g.after j
    have := (g.len (en - 1)).1
    omega
  · omega
theorem on_back (h1 : st ≤ d) (h2 : d < en) {s : Int} (hs : 0 ≤ s) (hl : s < lenV L d) : OnDay st ah en L (beginV ah L d + s) d := ⟨h1, h2, by omega, by omega⟩
theorem on_none (g : GTab st ah en L) (h : ¬ ∃ d, OnDay st ah en L a d) (hb : st ≤ d) (he : d < en) : ¬ (beginV ah L d ≤ a ∧ a - beginV ah L d < lenV L d) := fun k => h ⟨d, hb, he, k.1, by omega⟩
end

/-- A second's text. -/
def textU (y m d H M S : Int) : ByteArray := textB y m d ++ ⟨#[84]⟩ ++ digB 2 H.toNat ++ ⟨#[58]⟩ ++ digB 2 M.toNat ++ ⟨#[58]⟩ ++ digB 2 S.toNat ++ ⟨#[90]⟩
def tail10 (H M S : Int) : List UInt8 := [84, Lib.dg H.toNat 1, Lib.dg H.toNat 0, 58, Lib.dg M.toNat 1, Lib.dg M.toNat 0, 58, Lib.dg S.toNat 1, Lib.dg S.toNat 0, 90]
theorem textU_list (y m d H M S : Int) : (textU y m d H M S).data.toList = (textB y m d).data.toList ++ tail10 H M S := by
  unfold textU digB tail10
  simp only [ByteArray.data_append, Array.toList_append, List.append_assoc]
  rfl
theorem textU_size (y m d H M S : Int) : (textU y m d H M S).size = 20 := by
  rw [← list_len, textU_list, List.length_append, list_len, text_size]
  rfl
theorem less_app : ∀ (X Y A B : List UInt8), X.length = Y.length → Op.bytesLess (X ++ A) (Y ++ B) = (Op.bytesLess X Y || (X == Y && Op.bytesLess A B))
  | [], [], A, B, _ => by simp [Op.bytesLess]
  | x :: X, y :: Y, A, B, h => by
    have e : Op.bytesLess (x :: X ++ A) (y :: Y ++ B) = (decide (x < y) || (x == y && Op.bytesLess (X ++ A) (Y ++ B))) := rfl
    have e2 : Op.bytesLess (x :: X) (y :: Y) = (decide (x < y) || (x == y && Op.bytesLess X Y)) := rfl
    have e3 : (x :: X == y :: Y) = (x == y && X == Y) := rfl
    rw [e, e2, e3, less_app X Y A B (by simpa using h)]
    cases decide (x < y) <;> cases (x == y) <;> simp
theorem lex_two {a b : Nat} (ha : a < 100) (hb : b < 100) (Z : Prop) : (a / 10 ^ 1 % 10 < b / 10 ^ 1 % 10 ∨ (a / 10 ^ 1 % 10 = b / 10 ^ 1 % 10 ∧ (a / 10 ^ 0 % 10 < b / 10 ^ 0 % 10 ∨ (a / 10 ^ 0 % 10 = b / 10 ^ 0 % 10 ∧ Z)))) ↔ (a < b ∨ (a = b ∧ Z)) := by
  have k : ∀ x : Nat, x < 100 → 10 * (x / 10 ^ 1 % 10) + x / 10 ^ 0 % 10 = x := fun x hx => by omega
  rw [lex_step (Nat.mod_lt _ (by decide)) (Nat.mod_lt _ (by decide)), k a ha, k b hb]
theorem less_two (a b : Nat) (c : UInt8) (X Y : List UInt8) (Z : Prop) (ha : a < 100) (hb : b < 100) (h : Op.bytesLess X Y = true ↔ Z) :
    Op.bytesLess (c :: Lib.dg a 1 :: Lib.dg a 0 :: X) (c :: Lib.dg b 1 :: Lib.dg b 0 :: Y) = true ↔ (a < b ∨ (a = b ∧ Z)) := by
  rw [less_same, less_byte a b 1 _ _ _ (less_byte a b 0 X Y Z h), lex_two ha hb]
theorem nat_lex {p q : Int} (h1 : 0 ≤ p) (h2 : 0 ≤ q) (Z : Prop) : (p.toNat < q.toNat ∨ (p.toNat = q.toNat ∧ Z)) ↔ (p < q ∨ (p = q ∧ Z)) := by
  by_cases hz : Z <;> simp only [hz, and_true, and_false, or_false] <;> omega
theorem less_tail {H M S H' M' S' : Int} (h : CanT H M S) (h' : CanT H' M' S') : Op.bytesLess (tail10 H M S) (tail10 H' M' S') = decide (secV H M S < secV H' M' S') := by
  have k := sec_lt h h'
  obtain ⟨a, b, c, e, f, g⟩ := h
  obtain ⟨a', b', c', e', f', g'⟩ := h'
  rw [Bool.eq_iff_iff, decide_eq_true_iff, ← k]
  clear k
  have z1 : Op.bytesLess [90] [90] = true ↔ False := by rw [less_same]; simp [Op.bytesLess]
  have d0 := less_two S.toNat S'.toNat 58 _ _ _ (by omega) (by omega) z1
  have m0 := less_two M.toNat M'.toNat 58 _ _ _ (by omega) (by omega) d0
  have y0 := less_two H.toNat H'.toNat 84 _ _ _ (by omega) (by omega) m0
  refine y0.trans ?_
  rw [nat_lex a a', nat_lex c c', nat_lex f f']
  simp only [and_false, or_false]
theorem later_num {y m d y' m' d' : Int} (h : CanD y m d) (h' : CanD y' m' d') : laterD y' m' d' y m d = decide (numV y m d < numV y' m' d') := by
  rw [Bool.eq_iff_iff, decide_eq_true_iff]
  unfold laterD
  simp only [Bool.or_eq_true, Bool.and_eq_true, decide_eq_true_iff]
  constructor
  · intro k
    exact num_lt h h' (by omega)
  · intro k
    refine Classical.byContradiction fun n => ?_
    rcases (by omega : (y = y' ∧ m = m' ∧ d = d') ∨ (y' < y ∨ (y' = y ∧ (m' < m ∨ (m' = m ∧ d' < d))))) with ⟨rfl, rfl, rfl⟩ | t
    · exact Int.lt_irrefl _ k
    · have := num_lt h' h t
      omega
theorem text_same {y m d y' m' d' : Int} (h : CanD y m d) (h' : CanD y' m' d') : ((textB y m d).data.toList == (textB y' m' d').data.toList) = decide (numV y m d = numV y' m' d') := by
  rw [Bool.eq_iff_iff, decide_eq_true_iff, beq_iff_eq]
  constructor
  · intro e
    obtain ⟨rfl, rfl, rfl⟩ := text_one h h' (ByteArray.ext (Array.toList_inj.1 e))
    rfl
  · intro e
    obtain ⟨rfl, rfl, rfl⟩ := num_same h h' e
    rfl
/-- A later second has a greater text. -/
theorem less_textU {y m d H M S y' m' d' H' M' S' : Int} (h : CanD y m d) (k : CanT H M S) (h' : CanD y' m' d') (k' : CanT H' M' S') :
    Op.bytesLess (textU y m d H M S).data.toList (textU y' m' d' H' M' S').data.toList = decide (numV y m d < numV y' m' d' ∨ (numV y m d = numV y' m' d' ∧ secV H M S < secV H' M' S')) := by
  rw [textU_list, textU_list, less_app _ _ _ _ (by rw [list_len, list_len, text_size, text_size]), less_text h h', later_num h h', text_same h h', less_tail k k']
  by_cases a : numV y m d < numV y' m' d' <;> by_cases b : numV y m d = numV y' m' d' <;> by_cases c : secV H M S < secV H' M' S' <;> simp [a, b, c]
theorem textU_one {y m d H M S y' m' d' H' M' S' : Int} (h : CanD y m d) (k : CanT H M S) (h' : CanD y' m' d') (k' : CanT H' M' S') (e : textU y m d H M S = textU y' m' d' H' M' S') : (y = y' ∧ m = m' ∧ d = d') ∧ (H = H' ∧ M = M' ∧ S = S') := by
  have a := less_textU h k h' k'
  have b := less_textU h' k' h k
  rw [e] at a b
  have self : ∀ X : List UInt8, Op.bytesLess X X = false := fun X => by
    induction X with
    | nil => rfl
    | cons x X ih => rw [less_same]; exact ih
  rw [self] at a b
  have a := of_decide_eq_false a.symm
  have b := of_decide_eq_false b.symm
  have e1 : numV y m d = numV y' m' d' := by omega
  exact ⟨num_same h h' e1, sec_one k k' (by omega)⟩

/-- A text is a second's. -/
structure IsUtc (s : ByteArray) (y m d H M S : Int) : Prop where
  size : s.size = 20
  date : IsDate (s.extract 0 10) y m d
  b10 : byt s 10 = 84
  b13 : byt s 13 = 58
  b16 : byt s 16 = 58
  b19 : byt s 19 = 90
  hE : numD s 11 2 = H
  mE : numD s 14 2 = M
  sE : numD s 17 2 = S
  can : CanT H M S
theorem byt_nat {s : ByteArray} {l : List UInt8} (h : s.data.toList = l) (j : Nat) : byt s j = ((l.getD j 0).toNat : Int) := by unfold byt; rw [h]
theorem ext_list (s : ByteArray) (a b : Nat) : (s.extract a b).data.toList = (s.data.toList.drop a).take (b - a) := by
  have := Lib.extract_toList s a b
  rwa [Lib.toList_data] at this
theorem numS2 (s : ByteArray) (a : Nat) : numS s a 2 = (0 * 10 + (byt s a - 48)) * 10 + (byt s (a + 1) - 48) := rfl
theorem numD_of {s : ByteArray} {a : Nat} (h0 : 48 ≤ byt s a ∧ byt s a ≤ 57) (h1 : 48 ≤ byt s (a + 1) ∧ byt s (a + 1) ≤ 57) : numD s a 2 = 10 * (byt s a - 48) + (byt s (a + 1) - 48) := by
  unfold numD
  rw [if_pos, numS2]
  · omega
  · intro j hj
    rcases (by omega : j = 0 ∨ j = 1) with rfl | rfl
    · exact h0
    · exact h1
theorem numD_dig {s : ByteArray} {a : Nat} (h : 0 ≤ numD s a 2) : (48 ≤ byt s a ∧ byt s a ≤ 57) ∧ (48 ≤ byt s (a + 1) ∧ byt s (a + 1) ≤ 57) := by
  have hc : ∀ j, j < 2 → 48 ≤ byt s (a + j) ∧ byt s (a + j) ≤ 57 := Classical.byContradiction fun k => by
    unfold numD at h
    rw [if_neg k] at h
    omega
  exact ⟨hc 0 (by decide), hc 1 (by decide)⟩
theorem take_app (X Y : List UInt8) (n : Nat) (h : X.length = n) : ((X ++ Y).drop 0).take (n - 0) = X := by
  subst h
  simp
theorem textU_is {y m d H M S : Int} (h : CanD y m d) (k : CanT H M S) : IsUtc (textU y m d H M S) y m d H M S := by
  have hl := textU_list y m d H M S
  have hx : (textU y m d H M S).extract 0 10 = textB y m d := by
    refine ByteArray.ext (Array.toList_inj.1 ?_)
    rw [ext_list, hl]
    exact take_app _ _ 10 (by rw [list_len, text_size])
  have hb : ∀ j, byt (textU y m d H M S) (10 + j) = (((tail10 H M S).getD j 0).toNat : Int) := fun j => by
    rw [byt_nat hl, List.getD_eq_getElem?_getD, List.getElem?_append_right (by rw [list_len, text_size]; omega), list_len, text_size, Nat.add_sub_cancel_left, ← List.getD_eq_getElem?_getD]
  have dig : ∀ (n : Int) (j : Nat), (((Lib.dg n.toNat j).toNat : Nat) : Int) = 48 + (n.toNat / 10 ^ j % 10 : Nat) := fun n j => by rw [dg_nat]; omega
  obtain ⟨a, b, c, e, f, g⟩ := k
  have two : ∀ (n : Int) (p : Nat), 0 ≤ n → n ≤ 60 → byt (textU y m d H M S) p = 48 + (n.toNat / 10 ^ 1 % 10 : Nat) → byt (textU y m d H M S) (p + 1) = 48 + (n.toNat / 10 ^ 0 % 10 : Nat) → numD (textU y m d H M S) p 2 = n := fun n p h1 h2 e1 e2 => by
    rw [numD_of (by rw [e1]; omega) (by rw [e2]; omega), e1, e2]
    omega
  refine ⟨textU_size .., by rw [hx]; exact text_is h, hb 0, hb 3, hb 6, hb 9, two H 11 a (by omega) ?_ ?_, two M 14 c (by omega) ?_ ?_, two S 17 f (by omega) ?_ ?_, ⟨a, b, c, e, f, g⟩⟩
  · exact (hb 1).trans (dig H 1)
  · exact (hb 2).trans (dig H 0)
  · exact (hb 4).trans (dig M 1)
  · exact (hb 5).trans (dig M 0)
  · exact (hb 7).trans (dig S 1)
  · exact (hb 8).trans (dig S 0)
theorem is_textU {s : ByteArray} {y m d H M S : Int} (h : IsUtc s y m d H M S) : textU y m d H M S = s := by
  refine ByteArray.ext (Array.toList_inj.1 ?_)
  rw [textU_list, is_text h.date, ext_list]
  have e : ((s.data.toList.drop 0).take (10 - 0)) = s.data.toList.take 10 := rfl
  rw [e]
  refine Eq.trans (congrArg _ ?_) (List.take_append_drop 10 s.data.toList)
  have hs : ∀ j, j < 10 → ∃ b, (s.data.toList.drop 10)[j]? = some b ∧ byt s (10 + j) = (b.toNat : Int) := fun j hj => by
    have hl : 10 + j < s.data.toList.length := by rw [list_len, h.size]; omega
    refine ⟨s.data.toList[10 + j], by rw [List.getElem?_drop]; exact List.getElem?_eq_getElem hl, ?_⟩
    unfold byt
    rw [List.getD_eq_getElem?_getD, List.getElem?_eq_getElem hl]
    rfl
  obtain ⟨a, b, c, e, f, g⟩ := h.can
  have dh := numD_dig (s := s) (a := 11) (by rw [h.hE]; exact a)
  have dm := numD_dig (s := s) (a := 14) (by rw [h.mE]; exact c)
  have ds := numD_dig (s := s) (a := 17) (by rw [h.sE]; exact f)
  have vh := h.hE
  have vm := h.mE
  have vs := h.sE
  rw [numD_of dh.1 dh.2] at vh
  rw [numD_of dm.1 dm.2] at vm
  rw [numD_of ds.1 ds.2] at vs
  simp only [Nat.reduceAdd] at dh dm ds vh vm vs
  have b10 := h.b10
  have b13 := h.b13
  have b16 := h.b16
  have b19 := h.b19
  refine List.ext_getElem? fun j => ?_
  by_cases hj : j < 10
  · obtain ⟨b, e1, e2⟩ := hs j hj
    rw [e1]
    clear e1 hs
    rcases (by omega : j = 0 ∨ j = 1 ∨ j = 2 ∨ j = 3 ∨ j = 4 ∨ j = 5 ∨ j = 6 ∨ j = 7 ∨ j = 8 ∨ j = 9) with rfl | rfl | rfl | rfl | rfl | rfl | rfl | rfl | rfl | rfl
    · simp only [Nat.reduceAdd] at e2; refine congrArg some (byte_eq (?_ : ((84 : UInt8).toNat : Int) = _)); rw [← e2]; exact b10.symm
    · simp only [Nat.reduceAdd] at e2; refine congrArg some (byte_eq (?_ : ((Lib.dg H.toNat 1).toNat : Int) = _)); rw [dg_nat, ← e2]; omega
    · simp only [Nat.reduceAdd] at e2; refine congrArg some (byte_eq (?_ : ((Lib.dg H.toNat 0).toNat : Int) = _)); rw [dg_nat, ← e2]; omega
    · simp only [Nat.reduceAdd] at e2; refine congrArg some (byte_eq (?_ : ((58 : UInt8).toNat : Int) = _)); rw [← e2]; exact b13.symm
    · simp only [Nat.reduceAdd] at e2; refine congrArg some (byte_eq (?_ : ((Lib.dg M.toNat 1).toNat : Int) = _)); rw [dg_nat, ← e2]; omega
    · simp only [Nat.reduceAdd] at e2; refine congrArg some (byte_eq (?_ : ((Lib.dg M.toNat 0).toNat : Int) = _)); rw [dg_nat, ← e2]; omega
    · simp only [Nat.reduceAdd] at e2; refine congrArg some (byte_eq (?_ : ((58 : UInt8).toNat : Int) = _)); rw [← e2]; exact b16.symm
    · simp only [Nat.reduceAdd] at e2; refine congrArg some (byte_eq (?_ : ((Lib.dg S.toNat 1).toNat : Int) = _)); rw [dg_nat, ← e2]; omega
    · simp only [Nat.reduceAdd] at e2; refine congrArg some (byte_eq (?_ : ((Lib.dg S.toNat 0).toNat : Int) = _)); rw [dg_nat, ← e2]; omega
    · simp only [Nat.reduceAdd] at e2; refine congrArg some (byte_eq (?_ : ((90 : UInt8).toNat : Int) = _)); rw [← e2]; exact b19.symm
  · rw [List.getElem?_eq_none (by simp [tail10]; omega), List.getElem?_eq_none (by rw [List.length_drop, list_len, h.size]; omega)]
theorem isUtc_canD {s : ByteArray} {y m d H M S : Int} (h : IsUtc s y m d H M S) : CanD y m d := h.date.can
/-- What two bytes come to, whatever they are. -/
def numW (s : ByteArray) (a : Nat) : Int := 10 * ((byt s a - 48) % 256) + (byt s (a + 1) - 48) % 256
theorem numW_dig {s : ByteArray} {a : Nat} (h : 0 ≤ numD s a 2) : numW s a = numD s a 2 := by
  obtain ⟨h0, h1⟩ := numD_dig h
  rw [numD_of h0 h1]
  unfold numW
  omega
end Go.Proofs.YtcknllkbeadmlaaDoor

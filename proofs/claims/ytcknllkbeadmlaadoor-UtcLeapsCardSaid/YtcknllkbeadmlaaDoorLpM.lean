/- Package leap, by plain mathematics: the pieces of a text, what a line tells, what a text tells. -/
import Derived.Test.YtcknllkbeadmlaaDoorCvW
import Derived.Test.YtcknllkbeadmlaaDoorCvX
import Derived.Lib.Split
import Derived.Lib.IndexLaws
import Derived.Lib.CountLaws
namespace Go.Proofs.YtcknllkbeadmlaaDoor
open Go.RowKit
set_option linter.unusedSimpArgs false
set_option linter.unusedVariables false

/-- What stands between a byte, ahead of which something has been read. -/
def piecesG (c : UInt8) : List UInt8 → List UInt8 → List (List UInt8)
  | acc, [] => [acc]
  | acc, x :: l => if x = c then acc :: piecesG c [] l else piecesG c (acc ++ [x]) l
/-- A text's pieces. -/
def pcs (c : UInt8) (s : ByteArray) : List ByteArray := (piecesG c [] s.data.toList).map fun l => ⟨l.toArray⟩
theorem piecesG_len (c : UInt8) : ∀ (acc l : List UInt8), 1 ≤ (piecesG c acc l).length ∧ (piecesG c acc l).length ≤ l.length + 1
  | acc, [] => ⟨Nat.le_refl _, Nat.le_refl _⟩
  | acc, x :: l => by
    unfold piecesG
    have h1 := piecesG_len c [] l
    have h2 := piecesG_len c (acc ++ [x]) l
    split
    · simp only [List.length_cons]; omega
    · simp only [List.length_cons]; omega
theorem piecesG_size (c : UInt8) : ∀ (acc l : List UInt8), ∀ p ∈ piecesG c acc l, p.length ≤ acc.length + l.length
  | acc, [], p, hp => by simp [piecesG] at hp; subst hp; simp
  | acc, x :: l, p, hp => by
    unfold piecesG at hp
    split at hp
    · rcases List.mem_cons.1 hp with rfl | hp
      · omega
      · have := piecesG_size c [] l p hp
        simp only [List.length_cons, List.length_nil] at this ⊢
        omega
    · have := piecesG_size c (acc ++ [x]) l p hp
      simp only [List.length_append, List.length_cons, List.length_nil] at this ⊢
      omega
theorem size_list (s : ByteArray) : s.data.toList.length = s.size := by rw [Array.length_toList]; rfl
theorem pcs_len (c : UInt8) (s : ByteArray) : 1 ≤ (pcs c s).length ∧ (pcs c s).length ≤ s.size + 1 := by
  have := piecesG_len c [] s.data.toList
  unfold pcs
  rw [List.length_map]
  rwa [size_list] at this
theorem pcs_size (c : UInt8) (s : ByteArray) : ∀ p ∈ pcs c s, p.size ≤ s.size := by
  intro p hp
  unfold pcs at hp
  obtain ⟨l, hl, rfl⟩ := List.mem_map.1 hp
  have := piecesG_size c [] _ l hl
  rw [size_list, List.length_nil, Nat.zero_add] at this
  show l.toArray.size ≤ s.size
  rw [List.size_toArray]
  exact this
/-- No such byte ahead of place i, and one there. -/
theorem piecesG_hit (c : UInt8) : ∀ (i : Nat) (acc l : List UInt8), l[i]? = some c → (∀ k, k < i → l[k]? ≠ some c) → piecesG c acc l = (acc ++ l.take i) :: piecesG c [] (l.drop (i + 1))
  | _, _, [], h, _ => by simp at h
  | 0, acc, x :: l, h, _ => by
    simp only [List.getElem?_cons_zero, Option.some.injEq] at h
    subst h
    simp [piecesG]
  | i + 1, acc, x :: l, h, hk => by
    have hx : x ≠ c := fun e => hk 0 (by omega) (by simp [e])
    have := piecesG_hit c i (acc ++ [x]) l (by simpa using h) (fun k hlt => by simpa using hk (k + 1) (by omega))
    rw [piecesG, if_neg hx, this, List.take_succ_cons, List.drop_succ_cons, List.append_assoc]
    rfl
theorem piecesG_none (c : UInt8) : ∀ (acc l : List UInt8), (∀ k : Nat, l[k]? ≠ some c) → piecesG c acc l = [acc ++ l]
  | acc, [], _ => by simp [piecesG]
  | acc, x :: l, hk => by
    have hx : x ≠ c := fun e => hk 0 (by simp [e])
    have := piecesG_none c (acc ++ [x]) l (fun k => by simpa using hk (k + 1))
    rw [piecesG, if_neg hx, this, List.append_assoc]
    rfl

theorem arr_of {s : ByteArray} {l : List UInt8} (h : s.data.toList = l) : s = ⟨l.toArray⟩ := ByteArray.ext (Array.toList_inj.1 (by rw [h]))
theorem split_pcs (c : UInt8) : ∀ (n : Nat) (s : ByteArray), s.size ≤ n → Lib.splitB ⟨#[c]⟩ 0 (Lib.countB s ⟨#[c]⟩) s = pcs c s := by
  intro n
  induction n with
  | zero =>
    intro s hs
    have h0 : s.data.toList = [] := List.eq_nil_of_length_eq_zero (by rw [size_list]; omega)
    have hi : Lib.indexB s ⟨#[c]⟩ = -1 := by unfold Lib.indexB; rw [h0]; rfl
    rw [Lib.countB_miss _ _ hi, Lib.splitB_zero]
    unfold pcs
    rw [h0]
    simp only [piecesG, List.map_cons, List.map_nil]
    rw [arr_of h0]
  | succ n ih =>
    intro s hs
    have hone : Lib.indexB s ⟨#[c]⟩ = Lib.indexByte s.data.toList c := Lib.index_one _ _
    rcases Lib.indexB_cases s ⟨#[c]⟩ with hi | ⟨i, hi, hr⟩
    · rw [Lib.countB_miss _ _ hi, Lib.splitB_zero]
      unfold pcs
      rw [piecesG_none c [] _ (Lib.indexByte_none (by rw [← hone]; exact hi))]
      simp only [List.map_cons, List.map_nil, List.nil_append]
    · have hsz : (⟨#[c]⟩ : ByteArray).size = 1 := rfl
      rw [hsz] at hr
      obtain ⟨h1, h2⟩ := Lib.indexByte_some (by rw [← hone]; exact hi)
      rw [Lib.countB_hit s ⟨#[c]⟩ i (by rw [hsz]; exact Nat.le_refl _) hi, Nat.add_comm 1, Lib.splitB_hit _ _ _ _ i hi, hsz, ih _ (by rw [ByteArray.size_extract]; omega)]
      unfold pcs
      rw [piecesG_hit c i [] _ h1 h2, List.map_cons, List.nil_append, Nat.add_zero, Lib.extract_to_end]
      congr 1
      exact arr_of (Lib.extract_from_zero s i)
theorem split_is (c : UInt8) (s : ByteArray) : Lib.splitB ⟨#[c]⟩ 0 (Lib.countB s ⟨#[c]⟩) s = pcs c s := split_pcs c s.size s (Nat.le_refl _)
theorem split_len (c : UInt8) (s : ByteArray) : Lib.countB s ⟨#[c]⟩ + 1 = (pcs c s).length := by
  have : ∀ (n : Nat) (s : ByteArray), s.size ≤ n → Lib.countB s ⟨#[c]⟩ + 1 = (pcs c s).length := by
    intro n
    induction n with
    | zero =>
      intro s hs
      have h0 : s.data.toList = [] := List.eq_nil_of_length_eq_zero (by rw [size_list]; omega)
      have hi : Lib.indexB s ⟨#[c]⟩ = -1 := by unfold Lib.indexB; rw [h0]; rfl
      rw [Lib.countB_miss _ _ hi]
      unfold pcs
      rw [h0]
      rfl
    | succ n ih =>
      intro s hs
      have hone : Lib.indexB s ⟨#[c]⟩ = Lib.indexByte s.data.toList c := Lib.index_one _ _
      rcases Lib.indexB_cases s ⟨#[c]⟩ with hi | ⟨i, hi, hr⟩
      · rw [Lib.countB_miss _ _ hi]
        unfold pcs
        rw [piecesG_none c [] _ (Lib.indexByte_none (by rw [← hone]; exact hi))]
        rfl
      · have hsz : (⟨#[c]⟩ : ByteArray).size = 1 := rfl
        rw [hsz] at hr
        obtain ⟨h1, h2⟩ := Lib.indexByte_some (by rw [← hone]; exact hi)
        rw [Lib.countB_hit s ⟨#[c]⟩ i (by rw [hsz]; exact Nat.le_refl _) hi, hsz]
        have := ih (s.extract (i + 1) s.size) (by rw [ByteArray.size_extract]; omega)
        unfold pcs at this ⊢
        rw [piecesG_hit c i [] _ h1 h2, List.map_cons, List.length_cons, ← Lib.extract_to_end]
        omega
  exact this s.size s (Nat.le_refl _)

/-- What a table tells. -/
structure TB where
  st : Int
  ah : Int
  en : Int
  lp : List (Int × Int)
def TB.zero : TB := ⟨0, 0, 0, []⟩
/-- May the next leap be at the end of a day, as far as those ahead of it go? -/
def takesB (st : Int) (L : List (Int × Int)) (d : Int) : Bool := match L.getLast? with
  | none => decide (st ≤ d)
  | some e => decide (e.1 < d)
/-- The day of a word. -/
noncomputable def dayOf (s : ByteArray) : Option Int := open Classical in if h : ∃ p : Int × Int × Int, IsDate s p.1 p.2.1 p.2.2 then some (numV (Classical.choose h).1 (Classical.choose h).2.1 (Classical.choose h).2.2) else none
theorem isDate_one' {s : ByteArray} {y m d y' m' d' : Int} (h : IsDate s y m d) (k : IsDate s y' m' d') : y = y' ∧ m = m' ∧ d = d' := ⟨h.y_eq.trans k.y_eq.symm, h.m_eq.trans k.m_eq.symm, h.d_eq.trans k.d_eq.symm⟩
theorem dayOf_yes {s : ByteArray} {y m d : Int} (h : IsDate s y m d) : dayOf s = some (numV y m d) := by
  have hx : ∃ p : Int × Int × Int, IsDate s p.1 p.2.1 p.2.2 := ⟨(y, m, d), h⟩
  unfold dayOf
  rw [dif_pos hx]
  obtain ⟨e1, e2, e3⟩ := isDate_one' (Classical.choose_spec hx) h
  rw [e1, e2, e3]
theorem dayOf_no {s : ByteArray} (h : ¬ ∃ y m d, IsDate s y m d) : dayOf s = none := by
  unfold dayOf
  rw [dif_neg]
  rintro ⟨⟨y, m, d⟩, k⟩
  exact h ⟨y, m, d, k⟩
theorem dayOf_some {s : ByteArray} {n : Int} (h : dayOf s = some n) : ∃ y m d, IsDate s y m d ∧ n = numV y m d := by
  by_cases k : ∃ y m d, IsDate s y m d
  · obtain ⟨y, m, d, k⟩ := k
    rw [dayOf_yes k] at h
    exact ⟨y, m, d, k, (Option.some.inj h).symm⟩
  · rw [dayOf_no k] at h
    cases h
theorem dayOf_none {s : ByteArray} (h : dayOf s = none) : ¬ ∃ y m d, IsDate s y m d := by
  rintro ⟨y, m, d, k⟩
  rw [dayOf_yes k] at h
  cases h
theorem dayOf_bd {s : ByteArray} {n : Int} (h : dayOf s = some n) : -719162 ≤ n ∧ n ≤ 2932896 := by
  obtain ⟨y, m, d, k, rfl⟩ := dayOf_some h
  exact num_bd k.can
/-- A word's number from 0 to 99, in as few digits as can be. -/
def digitB (b : Int) : Bool := decide (48 ≤ b ∧ b ≤ 57)
def smallOf (s : ByteArray) : Option Int :=
  if s.size = 1 ∧ digitB (byt s 0) = true then some (byt s 0 - 48)
  else if s.size = 2 ∧ digitB (byt s 0) = true ∧ ¬ byt s 0 = 48 ∧ digitB (byt s 1) = true then some ((byt s 0 - 48) * 10 + (byt s 1 - 48)) else none
theorem digit_iff {b : Int} : digitB b = true ↔ 48 ≤ b ∧ b ≤ 57 := by unfold digitB; exact decide_eq_true_iff
theorem small_bd {s : ByteArray} {n : Int} (h : smallOf s = some n) : 0 ≤ n ∧ n ≤ 99 := by
  unfold smallOf at h
  split at h
  · rename_i k
    have := digit_iff.1 k.2
    simp only [Option.some.injEq] at h
    omega
  · split at h
    · rename_i k
      have := digit_iff.1 k.2.1
      have := digit_iff.1 k.2.2.2
      simp only [Option.some.injEq] at h
      omega
    · cases h
def startB : ByteArray := ⟨#[115, 116, 97, 114, 116]⟩
def leapB : ByteArray := ⟨#[108, 101, 97, 112]⟩
def endB : ByteArray := ⟨#[101, 110, 100]⟩
def moreB : ByteArray := ⟨#[43, 49]⟩
def lessB : ByteArray := ⟨#[45, 49]⟩
def stepOf (s : ByteArray) : Option Int := if s = moreB then some 1 else if s = lessB then some (-1) else none
theorem step_bd {s : ByteArray} {n : Int} (h : stepOf s = some n) : n = 1 ∨ n = -1 := by
  unfold stepOf at h
  split at h
  · exact .inl (Option.some.inj h).symm
  · split at h
    · exact .inr (Option.some.inj h).symm
    · cases h
/-- What a line's words tell: the state behind them, or the error's number. -/
noncomputable def startR (T : TB) (ws : List ByteArray) : Except Int TB := match ws with
  | [a, b, c] => if a = startB then match dayOf b, smallOf c with
      | some d, some n => .ok ⟨d, n, T.en, T.lp⟩
      | _, _ => .error 3
    else .error 3
  | _ => .error 3
noncomputable def leapR (T : TB) (ws : List ByteArray) : Except Int TB := match ws with
  | [a, b, c] => if a = leapB then match dayOf b, stepOf c with
      | some d, some n => if 64 ≤ T.lp.length then .error 6 else if takesB T.st T.lp d then .ok ⟨T.st, T.ah, T.en, T.lp ++ [(d, n)]⟩ else .error 12
      | _, _ => .error 3
    else .error 3
  | _ => .error 3
noncomputable def endR (T : TB) (ws : List ByteArray) : Except Int TB := match ws with
  | [a, b] => if a = endB then match dayOf b with
      | some d => if T.st < d ∧ takesB T.st T.lp d = true then .ok ⟨T.st, T.ah, d, T.lp⟩ else .error 12
      | none => .error 3
    else .error 3
  | _ => .error 3
noncomputable def lineR (s : Nat) (T : TB) (ws : List ByteArray) : Except Int (Nat × TB) :=
  if s = 0 then (startR T ws).map fun T => (1, T) else if s = 1 then (if ws.head? = some leapB then (leapR T ws).map fun T => (1, T) else (endR T ws).map fun T => (2, T)) else .error 3
/-- Does a line tell nothing? -/
def skipB (s : ByteArray) : Bool := decide (s.size = 0) || decide (byt s 0 = 35)
/-- What lines tell: the table; or the error's line, and number. -/
noncomputable def walkR : Nat → TB → List ByteArray → Nat → Except (Nat × Int) TB
  | s, T, [], k => if s = 2 then .ok T else .error (k, 3)
  | s, T, l :: ls, k => if skipB l then walkR s T ls (k + 1) else match lineR s T (pcs 32 l) with
    | .error c => .error (k + 1, c)
    | .ok (s', T') => walkR s' T' ls (k + 1)
noncomputable def parseR (s : ByteArray) : Except (Nat × Int) TB := if 16384 < s.size then .error (0, 5) else walkR 0 TB.zero (pcs 10 s) 0
/-- The next line that tells something, and behind which one it stands. -/
def nextR : List ByteArray → Nat → Nat × Option ByteArray
  | [], k => (k, none)
  | l :: ls, k => if skipB l then nextR ls (k + 1) else (k + 1, some l)
theorem nextR_bd : ∀ (ls : List ByteArray) (k : Nat), k ≤ (nextR ls k).1 ∧ (nextR ls k).1 ≤ k + ls.length
  | [], k => ⟨Nat.le_refl _, Nat.le_refl _⟩
  | l :: ls, k => by
    have := nextR_bd ls (k + 1)
    unfold nextR
    split
    · simp only [List.length_cons]; omega
    · simp only [List.length_cons]; omega
theorem nextR_mem : ∀ (ls : List ByteArray) (k : Nat) (l : ByteArray), (nextR ls k).2 = some l → l ∈ ls
  | [], k, l, h => by cases h
  | x :: ls, k, l, h => by
    unfold nextR at h
    split at h
    · exact List.mem_cons_of_mem _ (nextR_mem ls (k + 1) l h)
    · simp only [Option.some.injEq] at h
      exact h ▸ List.mem_cons_self ..
theorem walkR_cons (s : Nat) (T : TB) (l : ByteArray) (ls : List ByteArray) (k : Nat) : walkR s T (l :: ls) k = if skipB l then walkR s T ls (k + 1) else match lineR s T (pcs 32 l) with
    | .error c => .error (k + 1, c)
    | .ok (s', T') => walkR s' T' ls (k + 1) := by rw [walkR]
theorem nextR_cons (l : ByteArray) (ls : List ByteArray) (k : Nat) : nextR (l :: ls) k = if skipB l then nextR ls (k + 1) else (k + 1, some l) := by rw [nextR]
theorem walk_next : ∀ (ls : List ByteArray) (k s : Nat) (T : TB), walkR s T ls k = match nextR ls k with
    | (k', none) => if s = 2 then .ok T else .error (k', 3)
    | (k', some l) => match lineR s T (pcs 32 l) with
      | .error c => .error (k', c)
      | .ok (s', T') => walkR s' T' (ls.drop (k' - k)) k'
  | [], k, s, T => rfl
  | x :: ls, k, s, T => by
    rw [walkR_cons, nextR_cons]
    split
    · rw [walk_next ls (k + 1) s T]
      have hb := nextR_bd ls (k + 1)
      generalize nextR ls (k + 1) = r at hb
      obtain ⟨k', o⟩ := r
      dsimp only at hb
      cases o with
      | none => rfl
      | some l =>
        dsimp only
        rw [show k' - k = (k' - (k + 1)) + 1 by omega, List.drop_succ_cons]
    · dsimp only
      rw [show k + 1 - k = 1 by omega, List.drop_succ_cons, List.drop_zero]
end Go.Proofs.YtcknllkbeadmlaaDoor

/- Package leap, by plain mathematics: a told table's lines with lines put between, without the last, with one twice. -/
import Derived.Test.YtiglhmdiiajmhaaDoorLpX
namespace Go.Proofs.YtiglhmdiiajmhaaDoor
open Go.RowKit
set_option linter.unusedVariables false
set_option linter.unusedSimpArgs false

def wordL : ByteArray := ⟨#[35, 32, 97, 32, 119, 111, 114, 100]⟩
def noneL : ByteArray := ⟨#[]⟩
/-- Two lines that tell nothing, ahead of a line. -/
def insL (p : Int) : Nat → List ByteArray → List ByteArray
  | _, [] => []
  | k, l :: ls => if (k : Int) = p then noneL :: wordL :: l :: insL p (k + 1) ls else l :: insL p (k + 1) ls
theorem insL_snoc (p : Int) : ∀ (A : List ByteArray) (k : Nat) (x : ByteArray), insL p k (A ++ [x]) = insL p k A ++ (if ((k + A.length : Nat) : Int) = p then [noneL, wordL, x] else [x])
  | [], k, x => by
    simp only [List.nil_append, insL, List.length_nil, Nat.add_zero]
  | a :: A, k, x => by
    simp only [List.cons_append, insL, insL_snoc p A (k + 1) x, List.length_cons]
    rw [show k + 1 + A.length = k + (A.length + 1) by omega]
    split <;> simp
theorem insL_len (p : Int) : ∀ (ls : List ByteArray) (k : Nat), (linesL (insL p k ls)).length ≤ (linesL ls).length + (if (k : Int) ≤ p then 10 else 0)
  | [], k => by simp [insL, linesL]
  | l :: ls, k => by
    have ih := insL_len p ls (k + 1)
    unfold insL
    by_cases h : (k : Int) = p
    · rw [if_neg (show ¬ ((k + 1 : Nat) : Int) ≤ p by omega)] at ih
      rw [if_pos h, if_pos (by omega), linesL_cons, linesL_cons, linesL_cons, linesL_cons]
      simp only [List.length_append, List.length_cons]
      have e1 : noneL.data.toList.length = 0 := rfl
      have e2 : wordL.data.toList.length = 8 := rfl
      omega
    · rw [if_neg h, linesL_cons, linesL_cons]
      simp only [List.length_append, List.length_cons]
      split at ih <;> split <;> omega
theorem insL_no {p : Int} : ∀ (ls : List ByteArray) (k : Nat), (∀ l ∈ ls, No 10 l) → ∀ l ∈ insL p k ls, No 10 l
  | [], k, _, l, hl => by cases hl
  | x :: ls, k, h, l, hl => by
    have ih := insL_no (p := p) ls (k + 1) (fun y hy => h y (List.mem_cons_of_mem _ hy))
    have hx := h x (List.mem_cons_self ..)
    unfold insL at hl
    have hn : No 10 noneL := by intro y hy; cases hy
    have hw : No 10 wordL := by intro y hy; revert y; decide
    split at hl
    · simp only [List.mem_cons] at hl
      rcases hl with rfl | rfl | rfl | hl
      · exact hn
      · exact hw
      · exact hx
      · exact ih l hl
    · rcases List.mem_cons.1 hl with rfl | hl
      · exact hx
      · exact ih l hl
theorem ins_walk (p : Int) : ∀ (ls : List ByteArray) (k s : Nat) (T T' : TB) (rest : List ByteArray) (i i' : Nat), walkR s T (ls ++ rest) i = .ok T' → walkR s T (insL p k ls ++ rest) i' = .ok T'
  | [], k, s, T, T', rest, i, i', h => walk_ok_k rest s T T' i i' h
  | l :: ls, k, s, T, T', rest, i, i', h => by
    have key : ∀ j, walkR s T ((l :: insL p (k + 1) ls) ++ rest) j = .ok T' := fun j => by
      rw [List.cons_append, walkR_cons] at h ⊢
      split at h
      · rename_i hs
        rw [if_pos hs]
        exact ins_walk p ls (k + 1) s T T' rest _ _ h
      · rename_i hs
        rw [if_neg hs]
        split at h
        · cases h
        · exact ins_walk p ls (k + 1) _ _ T' rest _ _ h
    unfold insL
    split
    · rw [List.cons_append, walkR_cons, if_pos (by decide), List.cons_append, walkR_cons, if_pos (by decide)]
      exact key _
    · exact key _
theorem linesL_size {s : ByteArray} {ls : List ByteArray} (h : s.data.toList = linesL ls) : s.size = (linesL ls).length := by rw [← h, size_list]
theorem ins_parse {T : TB} (h : Told T) (p : Int) {s : ByteArray} (hs : s.data.toList = linesL (insL p 0 (tellsL T ++ [noneL]))) : parseR s = .ok T := by
  have hno : ∀ l ∈ tellsL T ++ [noneL], No 10 l := fun l hl => by
    rcases List.mem_append.1 hl with hl | hl
    · exact tells_no h l hl
    · simp only [List.mem_singleton] at hl
      subst hl
      intro y hy
      cases hy
  have hz : s.size ≤ 16384 := by
    rw [linesL_size hs]
    have h1 := insL_len p (tellsL T ++ [noneL]) 0
    have h2 := textT_size h
    rw [linesL_size (text_lines T)] at h2
    rw [linesL_append, List.length_append] at h1
    have h3 : (linesL [noneL]).length = 1 := rfl
    split at h1 <;> omega
  rw [parse_lines (insL_no _ 0 hno) hs hz]
  refine ins_walk p (tellsL T ++ [noneL]) 0 0 TB.zero T [⟨#[]⟩] 0 0 ?_
  rw [List.append_assoc, walk_all h]
  show walkR 2 T (noneL :: [⟨#[]⟩]) _ = _
  rw [walkR_cons, if_pos (by decide), walk_blank, if_pos rfl]
theorem tells_drop (T : TB) : (tellsL T).dropLast = headL T.st T.ah :: T.lp.map leapL := by
  unfold tellsL
  rw [← List.cons_append, List.dropLast_concat]
theorem tells_len (T : TB) : (tellsL T).length = T.lp.length + 2 := by
  unfold tellsL
  simp
theorem cut_parse {T : TB} (h : Told T) {s : ByteArray} (hs : s.data.toList = linesL (tellsL T).dropLast) : parseR s = .error (T.lp.length + 2, 3) := by
  have hno : ∀ l ∈ (tellsL T).dropLast, No 10 l := fun l hl => tells_no h l (List.dropLast_subset _ hl)
  have hz : s.size ≤ 16384 := by
    rw [linesL_size hs]
    have h2 := textT_size h
    rw [linesL_size (text_lines T)] at h2
    have h3 : tellsL T = (tellsL T).dropLast ++ [endL T.en] := by rw [tells_drop]; rfl
    rw [h3, linesL_append, List.length_append] at h2
    omega
  rw [parse_lines hno hs hz, tells_drop, List.cons_append, walk_most h, walk_blank, if_neg (by decide)]
  congr 2
  omega
/-- One line twice. -/
def twL (p : Nat) : Nat → List ByteArray → List ByteArray
  | _, [] => []
  | k, l :: ls => if k = p then l :: l :: twL p (k + 1) ls else l :: twL p (k + 1) ls
theorem twL_snoc (p : Nat) : ∀ (A : List ByteArray) (k : Nat) (x : ByteArray), twL p k (A ++ [x]) = twL p k A ++ (if k + A.length = p then [x, x] else [x])
  | [], k, x => by
    simp only [List.nil_append, twL, List.length_nil, Nat.add_zero]
  | a :: A, k, x => by
    simp only [List.cons_append, twL, twL_snoc p A (k + 1) x, List.length_cons]
    rw [show k + 1 + A.length = k + (A.length + 1) by omega]
    split <;> simp
theorem twL_far (p : Nat) : ∀ (ls : List ByteArray) (k : Nat), p < k → twL p k ls = ls
  | [], k, _ => rfl
  | l :: ls, k, h => by
    unfold twL
    rw [if_neg (by omega), twL_far p ls (k + 1) (by omega)]
theorem twL_at (p : Nat) : ∀ (A : List ByteArray) (x : ByteArray) (B : List ByteArray) (k : Nat), k + A.length = p → twL p k (A ++ x :: B) = A ++ x :: x :: B
  | [], x, B, k, h => by
    simp only [List.length_nil, Nat.add_zero] at h
    show (if k = p then x :: x :: twL p (k + 1) B else x :: twL p (k + 1) B) = _
    rw [if_pos h, twL_far p B (k + 1) (by omega)]
    rfl
  | a :: A, x, B, k, h => by
    simp only [List.length_cons] at h
    rw [List.cons_append]
    unfold twL
    rw [if_neg (by omega), twL_at p A x B (k + 1) (by omega)]
    rfl
theorem twL_len (p M : Nat) : ∀ (ls : List ByteArray) (k : Nat), (∀ l ∈ ls, l.data.toList.length ≤ M) → (linesL (twL p k ls)).length ≤ (linesL ls).length + (if k ≤ p then M + 1 else 0)
  | [], k, _ => by simp [twL, linesL]
  | l :: ls, k, h => by
    have ih := twL_len p M ls (k + 1) (fun x hx => h x (List.mem_cons_of_mem _ hx))
    have hl := h l (List.mem_cons_self ..)
    unfold twL
    by_cases e : k = p
    · rw [if_neg (show ¬ k + 1 ≤ p by omega)] at ih
      rw [if_pos e, if_pos (by omega), linesL_cons, linesL_cons, linesL_cons]
      simp only [List.length_append, List.length_cons]
      omega
    · rw [if_neg e, linesL_cons, linesL_cons]
      simp only [List.length_append, List.length_cons]
      split at ih <;> split <;> omega
theorem twL_no {p : Nat} : ∀ (ls : List ByteArray) (k : Nat), (∀ l ∈ ls, No 10 l) → ∀ l ∈ twL p k ls, No 10 l
  | [], k, _, l, hl => by cases hl
  | x :: ls, k, h, l, hl => by
    have ih := twL_no (p := p) ls (k + 1) (fun y hy => h y (List.mem_cons_of_mem _ hy))
    have hx := h x (List.mem_cons_self ..)
    unfold twL at hl
    split at hl
    · simp only [List.mem_cons] at hl
      rcases hl with rfl | rfl | hl
      · exact hx
      · exact hx
      · exact ih l hl
    · rcases List.mem_cons.1 hl with rfl | hl
      · exact hx
      · exact ih l hl
theorem mem_lines {l : ByteArray} {ls : List ByteArray} (h : l ∈ ls) : l.data.toList.length ≤ (linesL ls).length := by
  obtain ⟨A, B, rfl⟩ := List.append_of_mem h
  rw [linesL_append, linesL_cons]
  simp only [List.length_append, List.length_cons]
  omega
theorem walk_twice {T : TB} (h : Told T) (p : Nat) (hp : p < T.lp.length + 2) (rest : List ByteArray) : ∃ c, walkR 0 TB.zero (twL p 0 (tellsL T) ++ rest) 0 = .error (p + 2, c) ∧ (c = 3 ∨ c = 12 ∨ c = 6) := by
  by_cases h0 : p = 0
  · subst h0
    refine ⟨3, ?_, .inl rfl⟩
    have := twL_at 0 [] (headL T.st T.ah) (T.lp.map leapL ++ [endL T.en]) 0 rfl
    rw [List.nil_append] at this
    unfold tellsL
    rw [this, List.nil_append, List.cons_append, walk_head h, List.cons_append, walkR_cons, if_neg (by rw [skip_head]; decide), head_words h.fine.s1 h.fine.s2 h.fine.a1 h.fine.a2]
    have hl : lineR 1 ⟨T.st, T.ah, 0, []⟩ [startB, dateB T.st, decB T.ah.toNat] = .error 3 := by
      unfold lineR endR
      rw [if_neg (by decide), if_pos rfl, if_neg (show ¬ [startB, dateB T.st, decB T.ah.toNat].head? = some leapB by simp only [List.head?_cons]; decide)]
      rfl
    rw [hl]
  · by_cases h1 : p = T.lp.length + 1
    · refine ⟨3, ?_, .inl rfl⟩
      have := twL_at p (headL T.st T.ah :: T.lp.map leapL) (endL T.en) [] 0 (by simp; omega)
      have e : tellsL T = (headL T.st T.ah :: T.lp.map leapL) ++ endL T.en :: [] := rfl
      rw [e, this, List.append_assoc, List.cons_append, walk_most h]
      simp only [List.cons_append, List.nil_append]
      rw [walk_end h, walkR_cons, if_neg (by rw [skip_end]; decide)]
      have hl : lineR 2 T (pcs 32 (endL T.en)) = .error 3 := by
        unfold lineR
        rw [if_neg (by decide), if_neg (by decide)]
      rw [hl]
      dsimp only
      congr 2
      omega
    · obtain ⟨i, hi⟩ : ∃ i, p = i + 1 := ⟨p - 1, by omega⟩
      have hil : i < T.lp.length := by omega
      obtain ⟨e, he⟩ : ∃ x, T.lp[i]? = some x := ⟨_, List.getElem?_eq_getElem hil⟩
      have hsp : T.lp = T.lp.take i ++ e :: T.lp.drop (i + 1) := by
        obtain ⟨hk', e'⟩ := List.getElem?_eq_some_iff.1 he
        rw [← e', ← List.drop_eq_getElem_cons hk', List.take_append_drop]
      have hmem : e ∈ T.lp := List.mem_of_getElem? he
      obtain ⟨d, y⟩ := e
      have hb := h.day hmem
      have hy := h.one _ hmem
      dsimp only at hb hy
      have htl : tellsL T = (headL T.st T.ah :: (T.lp.take i).map leapL) ++ leapL (d, y) :: ((T.lp.drop (i + 1)).map leapL ++ [endL T.en]) := by
        unfold tellsL
        rw [List.cons_append]
        congr 1
        conv => lhs; rw [hsp]
        simp
      have htw := twL_at p (headL T.st T.ah :: (T.lp.take i).map leapL) (leapL (d, y)) ((T.lp.drop (i + 1)).map leapL ++ [endL T.en]) 0 (by simp [List.length_take]; omega)
      have hpre : T.lp.take i ++ [(d, y)] <+: T.lp := by
        conv => rhs; rw [hsp]
        exact ⟨T.lp.drop (i + 1), by simp⟩
      have hord := ord_pre h.ord hpre
      have hmp : (T.lp.take i ++ [(d, y)]).map leapL = (T.lp.take i).map leapL ++ [leapL (d, y)] := by simp
      have hone : Ones (T.lp.take i ++ [(d, y)]) := fun x hx => h.one x (hpre.subset hx)
      have hday : ∀ x ∈ T.lp.take i ++ [(d, y)], -719162 ≤ x.1 ∧ x.1 ≤ 2932896 := fun x hx => h.day (hpre.subset hx)
      have hlen : (T.lp.take i ++ [(d, y)]).length = i + 1 := by simp [List.length_take]; omega
      have hw : ∀ R, walkR 0 TB.zero (((headL T.st T.ah :: (T.lp.take i).map leapL) ++ leapL (d, y) :: R)) 0 = walkR 1 ⟨T.st, T.ah, 0, T.lp.take i ++ [(d, y)]⟩ R (1 + (i + 1)) := fun R => by
        rw [show (headL T.st T.ah :: (T.lp.take i).map leapL) ++ leapL (d, y) :: R = headL T.st T.ah :: ((T.lp.take i ++ [(d, y)]).map leapL ++ R) by rw [hmp]; simp, walk_head h,
          walk_leaps (T.lp.take i ++ [(d, y)]) [] R (0 + 1) (en := T.en) hord hone (by have := h.few; rw [List.nil_append, hlen]; omega) hday, List.nil_append, hlen, Nat.zero_add]
      have hass : ∀ B : List ByteArray, ((headL T.st T.ah :: (T.lp.take i).map leapL) ++ leapL (d, y) :: leapL (d, y) :: B) ++ rest = (headL T.st T.ah :: (T.lp.take i).map leapL) ++ leapL (d, y) :: (leapL (d, y) :: (B ++ rest)) := fun B => by simp
      rw [htl, htw, hass, hw, walkR_cons, if_neg (by rw [skip_leap]; decide), leap_words hb.1 hb.2]
      by_cases h64 : 64 ≤ i + 1
      · refine ⟨6, ?_, .inr (.inr rfl)⟩
        have hl : lineR 1 ⟨T.st, T.ah, 0, T.lp.take i ++ [(d, y)]⟩ [leapB, dateB d, signB y] = .error 6 := by
          unfold lineR leapR
          rw [if_neg (by decide), if_pos rfl, if_pos (show [leapB, dateB d, signB y].head? = some leapB from rfl)]
          simp only [dayOf_date hb.1 hb.2, step_sign hy, if_true, hlen, if_pos h64]
          rfl
        dsimp only at hl ⊢
        rw [hl]
        dsimp only
        congr 2
        omega
      · refine ⟨12, ?_, .inr (.inl rfl)⟩
        have ht : takesB T.st (T.lp.take i ++ [(d, y)]) d = false := by rw [takes_snoc]; exact decide_eq_false (Int.lt_irrefl _)
        have hl : lineR 1 ⟨T.st, T.ah, 0, T.lp.take i ++ [(d, y)]⟩ [leapB, dateB d, signB y] = .error 12 := by
          unfold lineR leapR
          rw [if_neg (by decide), if_pos rfl, if_pos (show [leapB, dateB d, signB y].head? = some leapB from rfl)]
          simp only [dayOf_date hb.1 hb.2, step_sign hy, if_true, hlen, if_neg h64, ht]
          rfl
        dsimp only at hl ⊢
        rw [hl]
        dsimp only
        congr 2
        omega
theorem twice_parse {T : TB} (h : Told T) (p : Nat) (hp : p < T.lp.length + 2) {s : ByteArray} (hs : s.data.toList = linesL (twL p 0 (tellsL T))) : ∃ c, parseR s = .error (p + 2, c) ∧ (c = 3 ∨ c = 12 ∨ c = 6) := by
  have hz : s.size ≤ 16384 := by
    rw [linesL_size hs]
    have h2 := textT_size h
    rw [linesL_size (text_lines T)] at h2
    have h1 := twL_len p 1300 (tellsL T) 0 (fun l hl => Nat.le_trans (mem_lines hl) h2)
    split at h1 <;> omega
  rw [parse_lines (twL_no _ 0 (tells_no h)) hs hz]
  exact walk_twice h p hp _
end Go.Proofs.YtiglhmdiiajmhaaDoor

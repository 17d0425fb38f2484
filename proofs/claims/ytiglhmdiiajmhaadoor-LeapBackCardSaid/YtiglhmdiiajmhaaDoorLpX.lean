/- Package leap, by plain mathematics: the lines of a told table, read again; with lines put between, cut off, doubled. -/
import Derived.Test.YtiglhmdiiajmhaaDoorLpQ
import Derived.Test.YtiglhmdiiajmhaaDoorLpT
namespace Go.Proofs.YtiglhmdiiajmhaaDoor
open Go.RowKit
set_option linter.unusedVariables false
set_option linter.unusedSimpArgs false

theorem piecesG_cut (c : UInt8) : ∀ (acc l r : List UInt8), (∀ x ∈ l, x ≠ c) → piecesG c acc (l ++ c :: r) = (acc ++ l) :: piecesG c [] r
  | acc, [], r, _ => by simp [piecesG]
  | acc, x :: l, r, h => by
    have hx := h x (List.mem_cons_self ..)
    rw [List.cons_append, piecesG, if_neg hx, piecesG_cut c (acc ++ [x]) l r (fun y hy => h y (List.mem_cons_of_mem _ hy)), List.append_assoc]
    rfl
theorem piecesG_all (c : UInt8) (l : List UInt8) (h : ∀ x ∈ l, x ≠ c) : piecesG c [] l = [l] := by
  rw [piecesG_none c [] l (fun k hk => by
    obtain ⟨hl, e⟩ := List.getElem?_eq_some_iff.1 hk
    exact h _ (List.getElem_mem hl) e)]
  rfl
/-- The bytes of lines. -/
def linesL (ls : List ByteArray) : List UInt8 := ls.flatMap fun l => l.data.toList ++ [10]
theorem linesL_cons (l : ByteArray) (ls : List ByteArray) : linesL (l :: ls) = l.data.toList ++ 10 :: linesL ls := by simp [linesL]
theorem linesL_append (a b : List ByteArray) : linesL (a ++ b) = linesL a ++ linesL b := by simp [linesL]
def No (c : UInt8) (s : ByteArray) : Prop := ∀ x ∈ s.data.toList, x ≠ c
theorem pieces_lines : ∀ (ls : List ByteArray), (∀ l ∈ ls, No 10 l) → (piecesG 10 [] (linesL ls)).map (fun l => (⟨l.toArray⟩ : ByteArray)) = ls ++ [⟨#[]⟩]
  | [], _ => rfl
  | l :: ls, h => by
    rw [linesL_cons, piecesG_cut 10 [] _ _ (h l (List.mem_cons_self ..)), List.map_cons, pieces_lines ls (fun x hx => h x (List.mem_cons_of_mem _ hx))]
    rfl
theorem pcs_lines {s : ByteArray} {ls : List ByteArray} (h : ∀ l ∈ ls, No 10 l) (hs : s.data.toList = linesL ls) : pcs 10 s = ls ++ [⟨#[]⟩] := by
  unfold pcs
  rw [hs]
  exact pieces_lines ls h
def join3 (a b c : ByteArray) : ByteArray := ⟨(a.data.toList ++ 32 :: (b.data.toList ++ 32 :: c.data.toList)).toArray⟩
def join2 (a b : ByteArray) : ByteArray := ⟨(a.data.toList ++ 32 :: b.data.toList).toArray⟩
theorem pcs_join3 {a b c : ByteArray} (ha : No 32 a) (hb : No 32 b) (hc : No 32 c) : pcs 32 (join3 a b c) = [a, b, c] := by
  unfold pcs join3
  rw [show (⟨(a.data.toList ++ 32 :: (b.data.toList ++ 32 :: c.data.toList)).toArray⟩ : ByteArray).data.toList = a.data.toList ++ 32 :: (b.data.toList ++ 32 :: c.data.toList) from rfl,
    piecesG_cut 32 [] _ _ ha, piecesG_cut 32 [] _ _ hb, piecesG_all 32 _ hc]
  rfl
theorem pcs_join2 {a b : ByteArray} (ha : No 32 a) (hb : No 32 b) : pcs 32 (join2 a b) = [a, b] := by
  unfold pcs join2
  rw [show (⟨(a.data.toList ++ 32 :: b.data.toList).toArray⟩ : ByteArray).data.toList = a.data.toList ++ 32 :: b.data.toList from rfl,
    piecesG_cut 32 [] _ _ ha, piecesG_all 32 _ hb]
  rfl
theorem no_join3 {k : UInt8} (hk : ¬ k = 32) {a b c : ByteArray} (ha : No k a) (hb : No k b) (hc : No k c) : No k (join3 a b c) := by
  intro x hx
  simp only [join3, List.mem_append, List.mem_cons] at hx
  rcases hx with h | rfl | h | rfl | h
  · exact ha x h
  · exact fun e => hk e.symm
  · exact hb x h
  · exact fun e => hk e.symm
  · exact hc x h
theorem no_join2 {k : UInt8} (hk : ¬ k = 32) {a b : ByteArray} (ha : No k a) (hb : No k b) : No k (join2 a b) := by
  intro x hx
  simp only [join2, List.mem_append, List.mem_cons] at hx
  rcases hx with h | rfl | h
  · exact ha x h
  · exact fun e => hk e.symm
  · exact hb x h
/-- Bytes from '+' on alone. -/
def High (s : ByteArray) : Prop := ∀ x ∈ s.data.toList, 43 ≤ x.toNat
theorem High.no {s : ByteArray} (h : High s) {c : UInt8} (hc : c.toNat < 43) : No c s := fun x hx e => by
  have := h x hx
  subst e
  omega
theorem high_start : High startB := by intro x hx; revert x; decide
theorem high_leap : High leapB := by intro x hx; revert x; decide
theorem high_end : High endB := by intro x hx; revert x; decide
theorem high_sign (y : Int) : High (signB y) := by
  unfold signB
  split
  · intro x hx; revert x; decide
  · intro x hx; revert x; decide
theorem high_dec {n : Nat} (h : n < 100) : High (decB n) := by
  by_cases h1 : n < 10
  · rw [dec_one h1]
    intro x hx
    simp only [List.mem_cons, List.not_mem_nil, or_false] at hx
    subst hx
    rw [u8_val (by omega)]
    omega
  · rw [dec_two h1 h]
    intro x hx
    simp only [List.mem_cons, List.not_mem_nil, or_false] at hx
    rcases hx with rfl | rfl <;> rw [u8_val (by omega)] <;> omega
theorem high_date {n : Int} (h1 : -719162 ≤ n) (h2 : n ≤ 2932896) : High (dateB n) := by
  obtain ⟨y, m, d, hc, rfl⟩ := date_ex h1 h2
  rw [dateB_of hc]
  intro x hx
  rw [text_list] at hx
  simp only [List.mem_cons, List.not_mem_nil, or_false] at hx
  rcases hx with rfl | rfl | rfl | rfl | rfl | rfl | rfl | rfl | rfl | rfl <;> first | (rw [dg_nat]; omega) | decide
noncomputable def headL (st ah : Int) : ByteArray := join3 startB (dateB st) (decB ah.toNat)
noncomputable def leapL (e : Int × Int) : ByteArray := join3 leapB (dateB e.1) (signB e.2)
noncomputable def endL (en : Int) : ByteArray := join2 endB (dateB en)
/-- The lines of a told table. -/
noncomputable def tellsL (T : TB) : List ByteArray := headL T.st T.ah :: (T.lp.map leapL ++ [endL T.en])
theorem leapsT_list (acc : ByteArray) (L : List (Int × Int)) : (leapsT acc L).data.toList = acc.data.toList ++ linesL (L.map leapL) := by
  induction L generalizing acc with
  | nil => simp [leapsT, linesL]
  | cons e L ih =>
    show (leapsT (acc ++ leapLB e) L).data.toList = _
    rw [ih, app_list, List.map_cons, linesL_cons]
    unfold leapLB leapL join3
    rw [line3]
    simp
theorem text_lines (T : TB) : (textT T).data.toList = linesL (tellsL T) := by
  unfold textT tellsL
  rw [app_list, leapsT_list, linesL_cons, linesL_append]
  unfold headB headL endLB endL join3 join2
  rw [line3, line2]
  simp [linesL]
/-- A table that is told has these. -/
structure Told (T : TB) : Prop where
  fine : FineR T.st T.ah T.en
  one : Ones T.lp
  few : T.lp.length ≤ 64
  ord : OrdL T.st T.en T.lp
theorem Told.day {T : TB} (h : Told T) {e : Int × Int} (he : e ∈ T.lp) : -719162 ≤ e.1 ∧ e.1 ≤ 2932896 := by
  have := h.ord.1 e he
  have := h.fine.s1
  have := h.fine.e2
  omega
theorem head_no {st ah : Int} {k : UInt8} (hk : k.toNat < 32) (h1 : -719162 ≤ st) (h2 : st ≤ 2932896) (h3 : 0 ≤ ah) (h4 : ah ≤ 99) : No k (headL st ah) :=
  no_join3 (fun e => by rw [e] at hk; exact absurd hk (by decide)) (high_start.no (by omega)) ((high_date h1 h2).no (by omega)) ((high_dec (by omega)).no (by omega))
theorem leap_no {e : Int × Int} {k : UInt8} (hk : k.toNat < 32) (h1 : -719162 ≤ e.1) (h2 : e.1 ≤ 2932896) : No k (leapL e) :=
  no_join3 (fun e => by rw [e] at hk; exact absurd hk (by decide)) (high_leap.no (by omega)) ((high_date h1 h2).no (by omega)) ((high_sign _).no (by omega))
theorem end_no {n : Int} {k : UInt8} (hk : k.toNat < 32) (h1 : -719162 ≤ n) (h2 : n ≤ 2932896) : No k (endL n) :=
  no_join2 (fun e => by rw [e] at hk; exact absurd hk (by decide)) (high_end.no (by omega)) ((high_date h1 h2).no (by omega))
theorem tells_no {T : TB} (h : Told T) : ∀ l ∈ tellsL T, No 10 l := by
  intro l hl
  unfold tellsL at hl
  rcases List.mem_cons.1 hl with rfl | hl
  · exact head_no (by decide) h.fine.s1 h.fine.s2 h.fine.a1 h.fine.a2
  · rcases List.mem_append.1 hl with hl | hl
    · obtain ⟨e, he, rfl⟩ := List.mem_map.1 hl
      exact leap_no (by decide) (h.day he).1 (h.day he).2
    · simp only [List.mem_singleton] at hl
      subst hl
      exact end_no (by decide) h.fine.e1 h.fine.e2
theorem skip_join3 (x : UInt8) (l : List UInt8) (b c : ByteArray) (hx : ¬ x.toNat = 35) : skipB (join3 ⟨(x :: l).toArray⟩ b c) = false := by
  unfold skipB
  have h1 : byt (join3 ⟨(x :: l).toArray⟩ b c) 0 = (x.toNat : Int) := rfl
  have h2 : ¬ (join3 ⟨(x :: l).toArray⟩ b c).size = 0 := by rw [← size_list]; simp [join3]
  rw [h1, decide_eq_false h2, decide_eq_false (by omega)]
  rfl
theorem skip_join2 (x : UInt8) (l : List UInt8) (b : ByteArray) (hx : ¬ x.toNat = 35) : skipB (join2 ⟨(x :: l).toArray⟩ b) = false := by
  unfold skipB
  have h1 : byt (join2 ⟨(x :: l).toArray⟩ b) 0 = (x.toNat : Int) := rfl
  have h2 : ¬ (join2 ⟨(x :: l).toArray⟩ b).size = 0 := by rw [← size_list]; simp [join2]
  rw [h1, decide_eq_false h2, decide_eq_false (by omega)]
  rfl
theorem skip_head (st ah : Int) : skipB (headL st ah) = false := skip_join3 115 [116, 97, 114, 116] _ _ (by decide)
theorem skip_leap (e : Int × Int) : skipB (leapL e) = false := skip_join3 108 [101, 97, 112] _ _ (by decide)
theorem skip_end (n : Int) : skipB (endL n) = false := skip_join2 101 [110, 100] _ (by decide)
theorem head_words {st ah : Int} (h1 : -719162 ≤ st) (h2 : st ≤ 2932896) (h3 : 0 ≤ ah) (h4 : ah ≤ 99) : pcs 32 (headL st ah) = [startB, dateB st, decB ah.toNat] :=
  pcs_join3 (high_start.no (by decide)) ((high_date h1 h2).no (by decide)) ((high_dec (by omega)).no (by decide))
theorem leap_words {e : Int × Int} (h1 : -719162 ≤ e.1) (h2 : e.1 ≤ 2932896) : pcs 32 (leapL e) = [leapB, dateB e.1, signB e.2] :=
  pcs_join3 (high_leap.no (by decide)) ((high_date h1 h2).no (by decide)) ((high_sign _).no (by decide))
theorem end_words {n : Int} (h1 : -719162 ≤ n) (h2 : n ≤ 2932896) : pcs 32 (endL n) = [endB, dateB n] :=
  pcs_join2 (high_end.no (by decide)) ((high_date h1 h2).no (by decide))
theorem tell_head {st ah : Int} (h1 : -719162 ≤ st) (h2 : st ≤ 2932896) (h3 : 0 ≤ ah) (h4 : ah ≤ 99) : lineR 0 TB.zero [startB, dateB st, decB ah.toNat] = .ok (1, ⟨st, ah, 0, []⟩) := by
  have e2 : smallOf (decB ah.toNat) = some ah := by rw [small_dec (by omega)]; congr 1; omega
  unfold lineR startR
  rw [if_pos rfl]
  simp only [dayOf_date h1 h2, e2, if_true]
  rfl
theorem step_sign {y : Int} (h : y = 1 ∨ y = -1) : stepOf (signB y) = some y := by
  rcases h with rfl | rfl <;> decide
theorem tell_leap {T : TB} {d y : Int} (h1 : -719162 ≤ d) (h2 : d ≤ 2932896) (hy : y = 1 ∨ y = -1) (h64 : T.lp.length < 64) (ht : takesB T.st T.lp d = true) :
    lineR 1 T [leapB, dateB d, signB y] = .ok (1, ⟨T.st, T.ah, T.en, T.lp ++ [(d, y)]⟩) := by
  unfold lineR leapR
  rw [if_neg (by decide), if_pos rfl, if_pos (show [leapB, dateB d, signB y].head? = some leapB from rfl)]
  simp only [dayOf_date h1 h2, step_sign hy, if_true, ht, if_neg (show ¬ 64 ≤ T.lp.length by omega)]
  rfl
theorem tell_end {T : TB} {d : Int} (h1 : -719162 ≤ d) (h2 : d ≤ 2932896) (hlt : T.st < d) (ht : takesB T.st T.lp d = true) :
    lineR 1 T [endB, dateB d] = .ok (2, ⟨T.st, T.ah, d, T.lp⟩) := by
  unfold lineR endR
  rw [if_neg (by decide), if_pos rfl, if_neg (show ¬ [endB, dateB d].head? = some leapB by simp only [List.head?_cons]; decide)]
  simp only [dayOf_date h1 h2, if_true]
  rw [if_pos ⟨hlt, ht⟩]
  rfl
theorem walk_leaps {st ah en : Int} : ∀ (L pre : List (Int × Int)) (rest : List ByteArray) (k : Nat), OrdL st en (pre ++ L) → Ones L → (pre ++ L).length ≤ 64 → (∀ e ∈ L, -719162 ≤ e.1 ∧ e.1 ≤ 2932896) →
    walkR 1 ⟨st, ah, 0, pre⟩ (L.map leapL ++ rest) k = walkR 1 ⟨st, ah, 0, pre ++ L⟩ rest (k + L.length)
  | [], pre, rest, k, _, _, _, _ => by simp
  | e :: L, pre, rest, k, ho, h1, h64, hd => by
    obtain ⟨d, y⟩ := e
    have hb := hd (d, y) (List.mem_cons_self ..)
    have hy := h1 (d, y) (List.mem_cons_self ..)
    have hp : pre ++ (d, y) :: L = (pre ++ [(d, y)]) ++ L := by simp
    rw [hp] at ho
    have ho1 := ord_pre ho (List.prefix_append _ _)
    have htk := ((ord_snoc (ord_pre ho1 (List.prefix_append _ _)) d y).1 ho1).1
    rw [List.map_cons, List.cons_append, walkR_cons, if_neg (by rw [skip_leap]; decide), leap_words hb.1 hb.2]
    rw [tell_leap (T := ⟨st, ah, 0, pre⟩) hb.1 hb.2 hy (by simp only [List.length_append, List.length_cons] at h64; dsimp only; omega) htk]
    dsimp only
    rw [walk_leaps L (pre ++ [(d, y)]) rest (k + 1) ho (fun x hx => h1 x (List.mem_cons_of_mem _ hx)) (by rw [← hp]; exact h64) (fun x hx => hd x (List.mem_cons_of_mem _ hx)), hp]
    congr 1
    simp only [List.length_cons]
    omega
theorem walk_head {T : TB} (h : Told T) (rest : List ByteArray) (k : Nat) : walkR 0 TB.zero (headL T.st T.ah :: rest) k = walkR 1 ⟨T.st, T.ah, 0, []⟩ rest (k + 1) := by
  rw [walkR_cons, if_neg (by rw [skip_head]; decide), head_words h.fine.s1 h.fine.s2 h.fine.a1 h.fine.a2, tell_head h.fine.s1 h.fine.s2 h.fine.a1 h.fine.a2]
theorem walk_end {T : TB} (h : Told T) (rest : List ByteArray) (k : Nat) : walkR 1 ⟨T.st, T.ah, 0, T.lp⟩ (endL T.en :: rest) k = walkR 2 T rest (k + 1) := by
  rw [walkR_cons, if_neg (by rw [skip_end]; decide), end_words h.fine.e1 h.fine.e2, tell_end (T := ⟨T.st, T.ah, 0, T.lp⟩) h.fine.e1 h.fine.e2 h.fine.lt ((takes_iff h.ord T.en).2 ⟨Int.le_of_lt h.fine.lt, fun e he => (h.ord.1 e he).2⟩)]
/-- All lines but the last, and all. -/
theorem walk_most {T : TB} (h : Told T) (rest : List ByteArray) : walkR 0 TB.zero (headL T.st T.ah :: (T.lp.map leapL ++ rest)) 0 = walkR 1 ⟨T.st, T.ah, 0, T.lp⟩ rest (1 + T.lp.length) := by
  rw [walk_head h, walk_leaps T.lp [] rest (0 + 1) (en := T.en) h.ord h.one h.few (fun e he => h.day he), List.nil_append, Nat.zero_add]
theorem walk_all {T : TB} (h : Told T) (rest : List ByteArray) : walkR 0 TB.zero (tellsL T ++ rest) 0 = walkR 2 T rest (1 + T.lp.length + 1) := by
  unfold tellsL
  rw [List.cons_append, List.append_assoc, walk_most h, List.singleton_append, walk_end h]
theorem skip_empty : skipB ⟨#[]⟩ = true := by decide
theorem walk_blank (s : Nat) (T : TB) (k : Nat) : walkR s T [⟨#[]⟩] k = if s = 2 then .ok T else .error (k + 1, 3) := by
  rw [walkR_cons, if_pos skip_empty]
  rfl
theorem textT_size {T : TB} (h : Told T) : (textT T).size ≤ 1300 := by
  unfold textT
  rw [app_size, leapsT_size _ _ (fun e he => h.day he), endLB_size h.fine.e1 h.fine.e2]
  have := headB_size h.fine.s1 h.fine.s2 h.fine.a1 h.fine.a2
  have := h.few
  omega
theorem text_pcs {T : TB} (h : Told T) : pcs 10 (textT T) = tellsL T ++ [⟨#[]⟩] := pcs_lines (tells_no h) (text_lines T)
theorem parse_lines {s : ByteArray} {ls : List ByteArray} (h : ∀ l ∈ ls, No 10 l) (hs : s.data.toList = linesL ls) (hz : s.size ≤ 16384) : parseR s = walkR 0 TB.zero (ls ++ [⟨#[]⟩]) 0 := by
  unfold parseR
  rw [if_neg (by omega), pcs_lines h hs]
/-- WHAT IS TOLD IS READ AS IT WAS. -/
theorem parse_text {T : TB} (h : Told T) : parseR (textT T) = .ok T := by
  rw [parse_lines (tells_no h) (text_lines T) (by have := textT_size h; omega), walk_all h, walk_blank, if_pos rfl]
theorem walk_ok_k : ∀ (ls : List ByteArray) (s : Nat) (T T' : TB) (k k' : Nat), walkR s T ls k = .ok T' → walkR s T ls k' = .ok T'
  | [], s, T, T', k, k', h => by
    unfold walkR at h ⊢
    split at h
    · rename_i hs
      rw [if_pos hs]
      exact h
    · cases h
  | l :: ls, s, T, T', k, k', h => by
    rw [walkR_cons] at h ⊢
    split at h
    · rename_i hs
      rw [if_pos hs]
      exact walk_ok_k ls s T T' (k + 1) (k' + 1) h
    · rename_i hs
      rw [if_neg hs]
      split at h
      · cases h
      · exact walk_ok_k ls _ _ T' (k + 1) (k' + 1) h
theorem walk_skips : ∀ (ins : List ByteArray) (s : Nat) (T : TB) (B : List ByteArray) (k : Nat), (∀ x ∈ ins, skipB x = true) → walkR s T (ins ++ B) k = walkR s T B (k + ins.length)
  | [], s, T, B, k, _ => rfl
  | x :: ins, s, T, B, k, h => by
    rw [List.cons_append, walkR_cons, if_pos (h x (List.mem_cons_self ..)), walk_skips ins s T B (k + 1) (fun y hy => h y (List.mem_cons_of_mem _ hy))]
    congr 1
    simp only [List.length_cons]
    omega
/-- Lines that tell nothing may stand between. -/
theorem walk_insert : ∀ (A ins B : List ByteArray) (s : Nat) (T T' : TB) (k k' : Nat), (∀ x ∈ ins, skipB x = true) → walkR s T (A ++ B) k = .ok T' → walkR s T (A ++ (ins ++ B)) k' = .ok T'
  | [], ins, B, s, T, T', k, k', h, hw => by
    rw [List.nil_append, walk_skips ins s T B k' h]
    exact walk_ok_k B s T T' k _ hw
  | a :: A, ins, B, s, T, T', k, k', h, hw => by
    rw [List.cons_append, walkR_cons] at hw ⊢
    split at hw
    · rename_i hs
      rw [if_pos hs]
      exact walk_insert A ins B s T T' (k + 1) (k' + 1) h hw
    · rename_i hs
      rw [if_neg hs]
      split at hw
      · cases hw
      · exact walk_insert A ins B _ _ T' (k + 1) (k' + 1) h hw
end Go.Proofs.YtiglhmdiiajmhaaDoor

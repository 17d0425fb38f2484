/- Package event: events as cells; letters of a label. Plain. -/
import Derived.Test.YtjifnnloncanpaaRgM
import Derived.Test.YtjifnnloncanpaaTbM
import Derived.Lib.OthersKept
import Derived.Laws.RangeAny
import Derived.Laws.DeepStrings4
namespace Go.Proofs.Ytjifnnloncanpaa
open Go.RowKit
set_option linter.unusedVariables false
set_option linter.unusedSimpArgs false

/-- An event. -/
structure Ev where
  id : Int
  lab : ByteArray
  loc : Int
  time : Int
  hops : Int
  root : Int
  boot : Int
  way : Int
def evZ : Ev := ⟨0, ⟨#[]⟩, 0, 0, 0, 0, 0, 0⟩
def ev8 (e : Ev) : List Value := [.int .i64 e.id, .string e.lab, .int .i64 e.loc, .int .i64 e.time, .int .i64 e.hops, .int .i64 e.root, .int .u16 e.boot, .int .i64 e.way]
def evs (L : List Ev) : List Value := L.flatMap ev8
theorem ev8_one (e : Ev) : ∀ v ∈ ev8 e, v.oneCell' = true := by
  intro v hv
  have h : (ev8 e).all (fun v => v.oneCell') = true := rfl
  exact List.all_eq_true.1 h v hv
theorem evs_nil : evs [] = [] := rfl
theorem evs_cons (e : Ev) (L : List Ev) : evs (e :: L) = ev8 e ++ evs L := rfl
theorem evs_append (L M : List Ev) : evs (L ++ M) = evs L ++ evs M := by simp [evs]
theorem evs_len : ∀ L : List Ev, (evs L).length = L.length * 8
  | [] => rfl
  | e :: L => by rw [evs_cons, List.length_append, evs_len L, List.length_cons]; show 8 + _ = _; omega
theorem evs_one (L : List Ev) : ∀ v ∈ evs L, v.oneCell' = true := by
  intro v hv
  simp only [evs, List.mem_flatMap] at hv
  obtain ⟨e, _, h⟩ := hv
  exact ev8_one e v h
theorem evs_get : ∀ (L : List Ev) (i : Nat) (e : Ev), L[i]? = some e → ∀ (j : Nat) (v : Value), (ev8 e)[j]? = some v → (evs L)[i * 8 + j]? = some v
  | x :: L, 0, e, h, j, v, hv => by
    simp only [List.getElem?_cons_zero, Option.some.injEq] at h
    subst h
    have hj : j < (ev8 x).length := (List.getElem?_eq_some_iff.1 hv).1
    rw [evs_cons, Nat.zero_mul, Nat.zero_add, List.getElem?_append_left hj]
    exact hv
  | x :: L, i + 1, e, h, j, v, hv => by
    have := evs_get L i e (by simpa using h) j v hv
    rw [evs_cons, List.getElem?_append_right (by show 8 ≤ _; omega), ← this]
    congr 1
    show _ - 8 = _
    omega
theorem evs_split (L : List Ev) : ∀ (i : Nat) (x e : Ev), L[i]? = some x → ∃ pre post, evs L = pre ++ (ev8 x ++ post) ∧ pre.length = i * 8 ∧ evs (L.set i e) = pre ++ (ev8 e ++ post) := by
  induction L with
  | nil => intro i x e h; simp at h
  | cons y L ih =>
    intro i x e h
    cases i with
    | zero =>
      simp only [List.getElem?_cons_zero, Option.some.injEq] at h
      subst h
      refine ⟨[], evs L, ?_, by simp, ?_⟩
      · rw [evs_cons, List.nil_append]
      · rw [List.set_cons_zero, evs_cons, List.nil_append]
    | succ i =>
      obtain ⟨pre, post, h1, h2, h3⟩ := ih i x e (by simpa using h)
      refine ⟨ev8 y ++ pre, post, by rw [evs_cons, h1, List.append_assoc], ?_, by rw [List.set_cons_succ, evs_cons, h3, List.append_assoc]⟩
      rw [List.length_append, h2]
      show 8 + _ = _
      omega
theorem evs_set {L : List Ev} {i : Nat} (h : i < L.length) (e : Ev) : splice (evs L) (i * 8) (ev8 e) = evs (L.set i e) := by
  obtain ⟨pre, post, h1, h2, h3⟩ := evs_split L i L[i] e (List.getElem?_eq_getElem h)
  have := splice_mid pre (ev8 L[i]) post (ev8 e) 0 (by show 0 + 8 ≤ 8; omega)
  rw [Nat.add_zero, h2] at this
  rw [h1, h3, this, splice_all (ev8 L[i]) (ev8 e) rfl]
theorem evs_take (L : List Ev) (i : Nat) : (evs L).take (i * 8) = evs (L.take i) := by
  induction i generalizing L with
  | zero => simp [evs]
  | succ i ih =>
    cases L with
    | nil => simp [evs]
    | cons e L =>
      rw [List.take_succ_cons, evs_cons, evs_cons, ← ih L, show (i + 1) * 8 = (ev8 e).length + i * 8 by show _ = 8 + _; omega, List.take_length_add_append]
theorem evs_repl (n : Nat) : evs (List.replicate n evZ) = (List.replicate n (ev8 evZ)).flatten := by
  induction n with
  | zero => rfl
  | succ n ih => rw [List.replicate_succ, evs_cons, ih, List.replicate_succ, List.flatten_cons]
theorem evs_rep (n : Nat) (X : Array Value) (hX : X = (ev8 evZ).toArray) : ((Array.range (n * 8)).map fun i => X[i % 8]!).toList = evs (List.replicate n evZ) := by
  subst hX
  apply List.ext_getElem?
  intro j
  by_cases hj : j < n * 8
  · have hi : (List.replicate n evZ)[j / 8]? = some evZ := by
      rw [List.getElem?_replicate, if_pos (by omega)]
    have h8 : j % 8 < (ev8 evZ).length := Nat.mod_lt _ (by decide)
    have := evs_get _ _ _ hi (j % 8) ((ev8 evZ)[j % 8]'h8) (List.getElem?_eq_getElem h8)
    rw [show j / 8 * 8 + j % 8 = j by omega] at this
    rw [this]
    simp [hj]
    rw [List.getElem?_eq_getElem h8]
    rfl
  · rw [List.getElem?_eq_none (by simpa using hj), List.getElem?_eq_none (by rw [evs_len, List.length_replicate]; omega)]
theorem ev8_inj {a b : Ev} (h : a.id = b.id ∧ a.lab = b.lab ∧ a.loc = b.loc ∧ a.time = b.time ∧ a.hops = b.hops ∧ a.root = b.root ∧ a.boot = b.boot ∧ a.way = b.way) : a = b := by
  obtain ⟨h1, h2, h3, h4, h5, h6, h7, h8⟩ := h
  cases a
  cases b
  simp_all

/-- A text's byte, as a number. -/
def bye (s : ByteArray) (j : Nat) : Int := ((s.data.toList.getD j 0).toNat : Int)
theorem bye_bd (s : ByteArray) (j : Nat) : 0 ≤ bye s j ∧ bye s j ≤ 255 := by
  unfold bye
  have := (s.data.toList.getD j 0).toNat_lt
  omega
theorem bye_at {s : ByteArray} {j : Nat} (h : j < s.size) : bye s j = ((s[j]'h).toNat : Int) := by
  unfold bye
  have h' : j < s.data.toList.length := by simpa using h
  rw [List.getD_eq_getElem?_getD, List.getElem?_eq_getElem h']
  rfl
/-- Is a letter one of a label? -/
def letB (c : Int) : Bool := decide (97 ≤ c ∧ c ≤ 122) || decide (48 ≤ c ∧ c ≤ 57) || decide (c = 95)
/-- Is a text a label? -/
def goodL (s : ByteArray) : Bool := decide (1 ≤ s.size) && decide (s.size ≤ 12) && decide (∀ j, j < s.size → letB (bye s j) = true)
theorem good_bad {s : ByteArray} (h : s.size < 1 ∨ 12 < s.size) : goodL s = false := by
  unfold goodL
  rcases h with h | h
  · rw [decide_eq_false (by omega : ¬ 1 ≤ s.size)]; rfl
  · rw [decide_eq_false (by omega : ¬ s.size ≤ 12)]; simp
theorem good_not {s : ByteArray} {j : Nat} (hj : j < s.size) (h : letB (bye s j) = false) : goodL s = false := by
  have hn : ¬ ∀ j, j < s.size → letB (bye s j) = true := fun k => by
    have := k j hj
    rw [h] at this
    cases this
  unfold goodL
  rw [decide_eq_false hn]
  simp
theorem good_yes {s : ByteArray} (h1 : 1 ≤ s.size) (h2 : s.size ≤ 12) (h : ∀ j, j < s.size → letB (bye s j) = true) : goodL s = true := by
  unfold goodL
  rw [decide_eq_true h1, decide_eq_true h2, decide_eq_true h]
  rfl
theorem good_size {s : ByteArray} (h : goodL s = true) : 1 ≤ s.size ∧ s.size ≤ 12 := by
  unfold goodL at h
  simp only [Bool.and_eq_true, decide_eq_true_eq] at h
  exact h.1
/-- What a rune tells of its byte. -/
theorem rune_let {s : ByteArray} {p : Nat} (h : p < s.size) : letB ((Utf8.decode s p).1 : Int) = letB (bye s p) ∧ (letB (bye s p) = true → (Utf8.decode s p).2 = 1) ∧ (Utf8.decode s p).1 ≤ 2147483647 := by
  refine ⟨?_, ?_, decode_le s p⟩
  · by_cases ha : (s[p]'h).toNat < 128
    · rw [decode_ascii s p h ha, bye_at h]
    · have hd := (decode_high s p h (by omega)).1
      rw [bye_at h]
      unfold letB
      rw [decide_eq_false (by omega), decide_eq_false (by omega), decide_eq_false (by omega), decide_eq_false (by omega), decide_eq_false (by omega), decide_eq_false (by omega)]
  · intro hc
    by_cases ha : (s[p]'h).toNat < 128
    · rw [decode_ascii s p h ha]
    · exfalso
      rw [bye_at h] at hc
      unfold letB at hc
      simp only [Bool.or_eq_true, decide_eq_true_eq] at hc
      omega
end Go.Proofs.Ytjifnnloncanpaa

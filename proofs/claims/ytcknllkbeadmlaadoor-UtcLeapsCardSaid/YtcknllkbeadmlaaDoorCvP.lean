/- Package civil: the date of a text (a range over a string, its runes). -/
import Derived.Test.YtcknllkbeadmlaaDoorCvU
import Derived.Lib.OthersKept
import Derived.Laws.RangeAny
namespace Go.Proofs.YtcknllkbeadmlaaDoor
open Go.RowKit
set_option linter.unusedSimpArgs false
set_option linter.unusedVariables false

/-- A text's byte, as a number. -/
def byt (s : ByteArray) (j : Nat) : Int := ((s.data.toList.getD j 0).toNat : Int)
theorem byt_bd (s : ByteArray) (j : Nat) : 0 ≤ byt s j ∧ byt s j ≤ 255 := by
  unfold byt
  have := (s.data.toList.getD j 0).toNat_lt
  omega
theorem byt_at {s : ByteArray} {j : Nat} (h : j < s.size) : byt s j = ((s[j]'h).toNat : Int) := by
  unfold byt
  have h' : j < s.data.toList.length := by simpa using h
  rw [List.getD_eq_getElem?_getD, List.getElem?_eq_getElem h']
  rfl
/-- Does a text's byte stand where it may? -/
def confB (s : ByteArray) (j : Nat) : Prop := if j = 4 ∨ j = 7 then byt s j = 45 else 48 ≤ byt s j ∧ byt s j ≤ 57
def confR (j : Nat) (r : Int) : Prop := if j = 4 ∨ j = 7 then r = 45 else 48 ≤ r ∧ r ≤ 57
/-- The number of k digits from a on. -/
def numS (s : ByteArray) (a : Nat) : Nat → Int
  | 0 => 0
  | k + 1 => numS s a k * 10 + (byt s (a + k) - 48)
theorem numS_bd (s : ByteArray) (a : Nat) {k : Nat} (hk : k ≤ 4) : -1000000 ≤ numS s a k ∧ numS s a k ≤ 1000000 := by
  have b0 := byt_bd s (a + 0)
  have b1 := byt_bd s (a + 1)
  have b2 := byt_bd s (a + 2)
  have b3 := byt_bd s (a + 3)
  have h : k = 0 ∨ k = 1 ∨ k = 2 ∨ k = 3 ∨ k = 4 := by omega
  rcases h with rfl | rfl | rfl | rfl | rfl <;> simp only [numS] <;> omega
/-- Is a text a date's? -/
structure IsDate (s : ByteArray) (y m d : Int) : Prop where
  ten : s.size = 10
  conf : ∀ j, j < 10 → confB s j
  y_eq : y = numS s 0 4
  m_eq : m = numS s 5 2
  d_eq : d = numS s 8 2
  can : CanD y m d
/-- What a rune tells of its byte. -/
theorem rune_conf {s : ByteArray} {p : Nat} (h : p < s.size) : (confB s p ↔ confR p ((Utf8.decode s p).1 : Int)) ∧ (confB s p → (Utf8.decode s p).2 = 1 ∧ ((Utf8.decode s p).1 : Int) = byt s p) ∧ (Utf8.decode s p).1 ≤ 2147483647 := by
  refine ⟨?_, ?_, decode_le s p⟩
  · by_cases ha : (s[p]'h).toNat < 128
    · rw [decode_ascii s p h ha]
      unfold confB confR
      rw [byt_at h]
    · have hd := (decode_high s p h (by omega)).1
      unfold confB confR
      rw [byt_at h]
      split <;> omega
  · intro hc
    by_cases ha : (s[p]'h).toNat < 128
    · rw [decode_ascii s p h ha, byt_at h]
      exact ⟨rfl, rfl⟩
    · exfalso
      unfold confB at hc
      rw [byt_at h] at hc
      split at hc <;> omega

/-- Where the numbers stand as p bytes have been read. -/
def atP (p : Nat) : Nat := if p ≤ 4 then 0 else if p ≤ 7 then 1 else 2
def nP (s : ByteArray) (p : Nat) : Int × Int × Int := (numS s 0 (min p 4), numS s 5 (min (p - 5) 2), numS s 8 (p - 8))
/-- The reading, under way. -/
structure PRun (w : World) (s : ByteArray) (p : Nat) (W : World) : Prop where
  res : Holds W w.heap.size 33 #[.int .i64 0, .int .i64 0, .int .i64 0]
  nums : Holds W (w.heap.size + 1) 68 #[.int .i64 (nP s p).1, .int .i64 (nP s p).2.1, .int .i64 (nP s p).2.2]
  iter : W.heap[w.heap.size + 2]? = some (.stringIter s p)
  below : Below w.heap.size w W
theorem holds_iterAt {w : World} {g k : Nat} {s : ByteArray} {pos : Nat} {t : TypeId} {cs : Array Value} (h : Holds w g t cs) (hk : g ≠ k) : Holds (w.iterAt k s pos) g t cs := (Lib.iterAt_other w k g s pos hk).trans h
theorem below_iterAt' {B : Nat} {a w : World} (h : Below B a w) {k : Nat} (hk : B ≤ k) (s : ByteArray) (pos : Nat) : Below B a (w.iterAt k s pos) := Lib.below_iterAt h hk s pos
theorem PRun.start (w : World) (s : ByteArray) : PRun w s 0 (((w.alloc (.cells #[.int .i64 0, .int .i64 0, .int .i64 0] 33)).alloc (.cells #[.int .i64 0, .int .i64 0, .int .i64 0] 68)).iter s 0) := by
  have e1 := size_alloc w (.cells #[.int .i64 0, .int .i64 0, .int .i64 0] 33)
  have e2 := size_alloc (w.alloc (.cells #[.int .i64 0, .int .i64 0, .int .i64 0] 33)) (.cells #[.int .i64 0, .int .i64 0, .int .i64 0] 68)
  have h1 := Holds.new (w.alloc (.cells #[.int .i64 0, .int .i64 0, .int .i64 0] 33)) 68 #[.int .i64 0, .int .i64 0, .int .i64 0]
  rw [e1] at h1
  have h2 := heap_alloc_new ((w.alloc (.cells #[.int .i64 0, .int .i64 0, .int .i64 0] 33)).alloc (.cells #[.int .i64 0, .int .i64 0, .int .i64 0] 68)) (.stringIter s 0)
  rw [e2, e1] at h2
  exact ⟨((Holds.new w _ _).alloc _).alloc _, h1.alloc _, h2, ((below_alloc w _).trans ((below_alloc _ _).mono (by rw [e1]; omega))).trans ((below_alloc _ _).mono (by rw [e2, e1]; omega))⟩
theorem PRun.moved {w W : World} {s : ByteArray} {p : Nat} (h : PRun w s p W) (q : Nat) :
    Holds (W.iterAt (w.heap.size + 2) s q) w.heap.size 33 #[.int .i64 0, .int .i64 0, .int .i64 0] ∧ Holds (W.iterAt (w.heap.size + 2) s q) (w.heap.size + 1) 68 #[.int .i64 (nP s p).1, .int .i64 (nP s p).2.1, .int .i64 (nP s p).2.2] ∧
      (W.iterAt (w.heap.size + 2) s q).heap[w.heap.size + 2]? = some (.stringIter s q) ∧ Below w.heap.size w (W.iterAt (w.heap.size + 2) s q) :=
  ⟨holds_iterAt h.res (by omega), holds_iterAt h.nums (by omega), Lib.iterAt_heap W _ s p q h.iter, below_iterAt' h.below (by omega) s q⟩
theorem prun_set {w W : World} {s : ByteArray} {p : Nat} {n0 n1 n2 : Int} (h1 : Holds W w.heap.size 33 #[.int .i64 0, .int .i64 0, .int .i64 0]) (h2 : Holds W (w.heap.size + 1) 68 #[.int .i64 n0, .int .i64 n1, .int .i64 n2])
    (h3 : W.heap[w.heap.size + 2]? = some (.stringIter s p)) (h4 : Below w.heap.size w W) (k : Nat) (v : Int) (e : nP s p = ((if k = 0 then v else n0), (if k = 1 then v else n1), (if k = 2 then v else n2))) (hk : k ≤ 2) :
    PRun w s p (W.setCell ⟨w.heap.size + 1, k, none⟩ (.int .i64 v)) := by
  refine ⟨h1.far (by omega) _, ?_, (Below.heap_setCell W ⟨w.heap.size + 1, k, none⟩ _ (w.heap.size + 2) (by dsimp only; omega)).trans h3, h4.setCell (by dsimp only; omega) _⟩
  have := h2.put k (.int .i64 v)
  rw [e]
  have hc : k = 0 ∨ k = 1 ∨ k = 2 := by omega
  rcases hc with rfl | rfl | rfl <;> exact this
theorem nP_same {s : ByteArray} {p : Nat} (h : p = 4 ∨ p = 7) : nP s (p + 1) = nP s p := by
  rcases h with rfl | rfl <;> rfl
theorem numS_next (s : ByteArray) (a k : Nat) : numS s a (k + 1) = numS s a k * 10 + (byt s (a + k) - 48) := rfl
theorem nP_next {s : ByteArray} {p : Nat} (h4 : ¬ p = 4) (h7 : ¬ p = 7) (h10 : p < 10) : nP s (p + 1) = ((if atP p = 0 then (nP s p).1 * 10 + (byt s p - 48) else (nP s p).1), (if atP p = 1 then (nP s p).2.1 * 10 + (byt s p - 48) else (nP s p).2.1), (if atP p = 2 then (nP s p).2.2 * 10 + (byt s p - 48) else (nP s p).2.2)) := by
  have h : p = 0 ∨ p = 1 ∨ p = 2 ∨ p = 3 ∨ p = 5 ∨ p = 6 ∨ p = 8 ∨ p = 9 := by omega
  rcases h with rfl | rfl | rfl | rfl | rfl | rfl | rfl | rfl <;> rfl
theorem nP_bd (s : ByteArray) {p : Nat} (h : p ≤ 10) : (-1000000 ≤ (nP s p).1 ∧ (nP s p).1 ≤ 1000000) ∧ (-1000000 ≤ (nP s p).2.1 ∧ (nP s p).2.1 ≤ 1000000) ∧ -1000000 ≤ (nP s p).2.2 ∧ (nP s p).2.2 ≤ 1000000 :=
  ⟨numS_bd s 0 (by omega), numS_bd s 5 (by omega), numS_bd s 8 (by omega)⟩
end Go.Proofs.YtcknllkbeadmlaaDoor

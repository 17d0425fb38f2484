/- Numbers as bytes, plainly. -/
import Derived.Test.YtbdlpkkgfhknkaaLawKit
import Derived.Laws.BitsAllLaws
namespace Go.Proofs.Ytbdlpkkgfhknkaa

/-- The number in bytes, the highest first. -/
def getB (zs : List Int) : Int := zs.foldl (fun n z => n * 256 + z) 0
/-- The lowest k bytes of a number, the highest first. -/
def putB : Nat → Int → List Int
  | 0, _ => []
  | k + 1, n => n / 256 ^ k % 256 :: putB k n
theorem fold_get (zs : List Int) (a : Int) : zs.foldl (fun n z => n * 256 + z) a = a * 256 ^ zs.length + getB zs := by
  induction zs generalizing a with
  | nil => simp [getB]
  | cons z zs ih =>
    unfold getB
    rw [List.foldl_cons, List.foldl_cons, ih, ih (0 * 256 + z), List.length_cons, Int.pow_succ]
    grind
theorem get_nil : getB [] = 0 := rfl
theorem get_append (a b : List Int) : getB (a ++ b) = getB a * 256 ^ b.length + getB b := by
  rw [getB, List.foldl_append, fold_get]
  rfl
theorem get_snoc (zs : List Int) (z : Int) : getB (zs ++ [z]) = getB zs * 256 + z := by
  rw [get_append]
  simp [getB]
theorem get_cons (z : Int) (zs : List Int) : getB (z :: zs) = z * 256 ^ zs.length + getB zs := by
  have := get_append [z] zs
  simpa [getB] using this
theorem take_more (zs : List Int) (k : Nat) (h : k < zs.length) : zs.take (k + 1) = zs.take k ++ [zs[k]?.getD 0] := by
  rw [List.take_succ_eq_append_getElem h, List.getElem?_eq_getElem h]
  rfl
theorem get_take (zs : List Int) (k : Nat) (h : k < zs.length) : getB (zs.take (k + 1)) = getB (zs.take k) * 256 + zs[k]?.getD 0 := by
  rw [take_more zs k h, get_snoc]
theorem get_le (zs : List Int) (h : ∀ z ∈ zs, F8 z) : 0 ≤ getB zs ∧ getB zs < 256 ^ zs.length := by
  induction zs with
  | nil => simp [getB]
  | cons z zs ih =>
    obtain ⟨h1, h2⟩ := h z (List.mem_cons_self ..)
    obtain ⟨h3, h4⟩ := ih fun x hx => h x (List.mem_cons_of_mem _ hx)
    rw [get_cons, List.length_cons, Int.pow_succ]
    have hp : (0 : Int) < 256 ^ zs.length := Int.pow_pos (by omega)
    have ha := Int.mul_le_mul_of_nonneg_right h2 (Int.le_of_lt hp)
    have hb := Int.mul_nonneg h1 (Int.le_of_lt hp)
    omega
theorem pow_mono {a b : Nat} (h : a ≤ b) : (256 : Int) ^ a ≤ 256 ^ b := by
  obtain ⟨c, rfl⟩ : ∃ c, b = a + c := ⟨b - a, by omega⟩
  rw [Int.pow_add]
  have h1 : (0 : Int) < 256 ^ a := Int.pow_pos (by omega)
  have h2 : (0 : Int) < 256 ^ c := Int.pow_pos (by omega)
  have := Int.mul_le_mul_of_nonneg_left (show (1 : Int) ≤ 256 ^ c by omega) (Int.le_of_lt h1)
  omega
theorem f8s {zs : List Int} (h : ∀ n ∈ zs, (Lit.int .u8 n).wf = true) : ∀ n ∈ zs, F8 n := fun n hn => f8_wf (h n hn)
theorem byte_at {zs : List Int} (h : ∀ n ∈ zs, (Lit.int .u8 n).wf = true) (k : Nat) : 0 ≤ zs[k]?.getD 0 ∧ zs[k]?.getD 0 ≤ 255 := by
  rcases Nat.lt_or_ge k zs.length with hk | hk
  · rw [List.getElem?_eq_getElem hk]
    exact f8_wf (h _ (List.getElem_mem hk))
  · rw [List.getElem?_eq_none hk]
    simp
/-- Of no more than eight bytes the number is one of 64 bits. -/
theorem get_lt (zs : List Int) (h : ∀ z ∈ zs, F8 z) (hl : zs.length ≤ 8) : 0 ≤ getB zs ∧ getB zs < 18446744073709551616 := by
  have h1 := get_le zs h
  have h2 := pow_mono hl
  have h3 : (256 : Int) ^ 8 = 18446744073709551616 := by decide
  omega
theorem get_lt7 (zs : List Int) (h : ∀ z ∈ zs, F8 z) (hl : zs.length ≤ 7) : 0 ≤ getB zs ∧ getB zs < 72057594037927936 := by
  have h1 := get_le zs h
  have h2 := pow_mono hl
  have h3 : (256 : Int) ^ 7 = 72057594037927936 := by decide
  omega
theorem put_length (k : Nat) (n : Int) : (putB k n).length = k := by
  induction k with
  | zero => rfl
  | succ k ih => simp [putB, ih]
theorem put_wf (k : Nat) (n : Int) : ∀ z ∈ putB k n, (Lit.int .u8 z).wf = true := by
  induction k with
  | zero => simp [putB]
  | succ k ih =>
    intro z hz
    simp only [putB, List.mem_cons] at hz
    rcases hz with rfl | hz
    · exact WalkArith.wf_u8 (by omega)
    · exact ih z hz
/-- What was put is read again. -/
theorem get_put (k : Nat) (n : Int) : getB (putB k n) = n % 256 ^ k := by
  induction k with
  | zero => simp [putB, getB, Int.emod_one]
  | succ k ih =>
    rw [putB, get_cons, ih, put_length, Int.pow_succ]
    have hp : (0 : Int) < 256 ^ k := Int.pow_pos (by omega)
    generalize (256 : Int) ^ k = M at hp
    have h1 := Int.emod_add_mul_ediv n M
    have h2 := Int.emod_add_mul_ediv (n / M) 256
    have h3 := Int.emod_add_mul_ediv n (M * 256)
    have h4 : n / (M * 256) = n / M / 256 := by rw [Int.ediv_mul, if_neg (by omega), Int.add_zero]
    rw [h4] at h3
    grind
theorem u64_join {a b : Int} (a1 : 0 ≤ a) (a2 : a < 72057594037927936) (b1 : 0 ≤ b) (b2 : b ≤ 255) : bits .or .u64 (a * 256) b = a * 256 + b := by
  obtain ⟨X, rfl⟩ := Int.eq_ofNat_of_zero_le a1
  obtain ⟨Y, rfl⟩ := Int.eq_ofNat_of_zero_le b1
  have h := u64_or_nat (X * 256) Y (by omega) (by omega)
  have e := Nat.shiftLeft_add_eq_or_of_lt (a := X) (b := Y) (i := 8) (by omega)
  rw [Nat.shiftLeft_eq] at e
  rw [show (2 : Nat) ^ 8 = 256 by decide] at e
  rw [← e] at h
  rw [show ((X : Int) * 256) = ((X * 256 : Nat) : Int) by simp, h]
  simp
end Go.Proofs.Ytbdlpkkgfhknkaa

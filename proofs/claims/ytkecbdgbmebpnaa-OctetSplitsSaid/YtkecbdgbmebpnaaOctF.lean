/- Two eyes side by side. -/
import Derived.Test.YtkecbdgbmebpnaaOctE
namespace Go.Proofs.Ytkecbdgbmebpnaa
open Go.RowKit

/-- Two eyes of the call's own, at blocks g and h, on these bytes. -/
def Two (w0 w : World) (g h : Nat) (xs ys : List Int) : Prop :=
  Below w0.heap.size w0 w ∧ g ≠ h ∧ ∃ B C, w0.heap.size ≤ B ∧ w0.heap.size ≤ C ∧ Eyes w B g xs ∧ Eyes w C h ys
theorem Two.symm {w0 w : World} {g h : Nat} {xs ys : List Int} (t : Two w0 w g h xs ys) : Two w0 w h g ys xs := by
  obtain ⟨hb, hne, B, C, hB, hC, hx, hy⟩ := t
  exact ⟨hb, hne.symm, C, B, hC, hB, hy, hx⟩
theorem num_x {w0 w : World} {g h k : Nat} {K V : Int} {xs ys xs' : List Int} (t : Two w0 w g h xs ys) (hK : K = (k : Int)) (hk : k ≤ 8) (hl : k ≤ xs.length) (hv : getB (xs.take k) = V) (hd : xs.drop k = xs') :
    Calls Try.prog 7 #[.pointer (some ⟨g, 0, none⟩), .int .i64 K] w fun e w' => e = .returned (.tuple #[.int .u64 V, .bool true]) ∧ Two w0 w' g h xs' ys := by
  obtain ⟨hb, hne, B, C, hB, hC, hx, hy⟩ := t
  subst hK hv hd
  refine (num_yes B g k xs w hx hk hl).mono fun _ _ ⟨he, hp, hg⟩ => ⟨he, ?_, hne, B, C, hB, hC, hp, hy.other hx hne.symm hg⟩
  exact below_grown hb hb.size hg (Nat.le_trans hB hx.1)
theorem num_y {w0 w : World} {g h k : Nat} {K V : Int} {xs ys xs' : List Int} (t : Two w0 w h g ys xs) (hK : K = (k : Int)) (hk : k ≤ 8) (hl : k ≤ xs.length) (hv : getB (xs.take k) = V) (hd : xs.drop k = xs') :
    Calls Try.prog 7 #[.pointer (some ⟨g, 0, none⟩), .int .i64 K] w fun e w' => e = .returned (.tuple #[.int .u64 V, .bool true]) ∧ Two w0 w' h g ys xs' :=
  (num_x t.symm hK hk hl hv hd).mono fun _ _ ⟨he, hp⟩ => ⟨he, hp.symm⟩
theorem left_x {w0 w : World} {g h L : Nat} {xs ys : List Int} (t : Two w0 w g h xs ys) (hL : xs.length = L) :
    Calls Try.prog 9 #[.pointer (some ⟨g, 0, none⟩)] w fun e w' => e = .returned (.int .i64 (L : Int)) ∧ w = w' := by
  obtain ⟨hb, hne, B, C, hB, hC, hx, hy⟩ := t
  subst hL
  exact left_any B g xs w hx
theorem left_y {w0 w : World} {g h L : Nat} {xs ys : List Int} (t : Two w0 w h g ys xs) (hL : xs.length = L) :
    Calls Try.prog 9 #[.pointer (some ⟨g, 0, none⟩)] w fun e w' => e = .returned (.int .i64 (L : Int)) ∧ w = w' := left_x t.symm hL
theorem two_new {w w1 w2 w3 : World} {g h : Nat} {xs : List Int} (hb1 : Below w.heap.size w w1) (he1 : Eyes w2 w1.heap.size g xs) (hb2 : Below w1.heap.size w1 w2) (he2 : Eyes w3 w2.heap.size h xs) (hb3 : Below w2.heap.size w2 w3) :
    Two w w3 g h xs xs := by
  have s1 := hb1.size
  have s2 := hb2.size
  refine ⟨(hb1.trans (hb2.mono s1)).trans (hb3.mono (by omega)), ?_, _, _, s1, by omega, he1.below hb3, he2⟩
  have := he1.lt
  have := he2.1
  omega
/-- Two numbers, one behind the other, in no more than eight bytes. -/
theorem joined (m n : Int) (k : Nat) (hm : 0 ≤ m) (hn : 0 ≤ n) (hnk : n < 256 ^ k) (hs : m * 256 ^ k + n < 18446744073709551616) : bits .or .u64 (IntKind.u64.wrap (m * 256 ^ k)) n = m * 256 ^ k + n := by
  have hp : (0 : Int) < 256 ^ k := Int.pow_pos (by omega)
  have hq := Int.mul_nonneg hm (Int.le_of_lt hp)
  have hw : IntKind.u64.wrap (m * 256 ^ k) = m * 256 ^ k := by
    rw [IntKind.wrap_u64]
    omega
  rw [hw]
  obtain ⟨X, rfl⟩ := Int.eq_ofNat_of_zero_le hm
  obtain ⟨Y, rfl⟩ := Int.eq_ofNat_of_zero_le hn
  have c1 : (X : Int) * 256 ^ k = ((X * 256 ^ k : Nat) : Int) := by simp
  have c2 : (256 : Int) ^ k = ((256 ^ k : Nat) : Int) := by simp
  rw [c1] at hs ⊢
  rw [c2] at hnk
  have hY : Y < 2 ^ (8 * k) := by
    rw [Nat.pow_mul]
    exact_mod_cast hnk
  have h := u64_or_nat (X * 256 ^ k) Y (by omega) (by omega)
  have e := Nat.shiftLeft_add_eq_or_of_lt (a := X) (b := Y) (i := 8 * k) hY
  rw [Nat.shiftLeft_eq, Nat.pow_mul] at e
  have e' : X * 256 ^ k + Y = X * 256 ^ k ||| Y := e
  rw [h, ← e']
  simp
theorem get_parts (ys : List Int) (j k : Nat) (h : j + k ≤ ys.length) : getB (ys.take (j + k)) = getB (ys.take j) * 256 ^ k + getB ((ys.drop j).take k) := by
  rw [List.take_add, get_append]
  have e : ((ys.drop j).take k).length = k := by rw [List.length_take, List.length_drop]; omega
  rw [e]
theorem joined' (m n a : Int) (k : Nat) (hm : 0 ≤ m) (hn : 0 ≤ n) (hnk : n < 256 ^ k) (hs : a = m * 256 ^ k + n) (ha : a < 18446744073709551616) : bits .or .u64 (IntKind.u64.wrap (m * 2 ^ (8 * (k : Int)).toNat)) n = a := by
  rw [show (8 * (k : Int)).toNat = 8 * k by omega, two_pow8, hs]
  exact joined m n k hm hn hnk (hs ▸ ha)
end Go.Proofs.Ytkecbdgbmebpnaa

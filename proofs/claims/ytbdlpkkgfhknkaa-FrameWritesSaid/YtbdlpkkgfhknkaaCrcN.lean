/- The mathematics of turned bytes: what turns in a row turns in its sum, by steps that lose nothing. -/
import Derived.Test.YtbdlpkkgfhknkaaCrcD
namespace Go.Proofs.Ytbdlpkkgfhknkaa
open Go.RowKit

theorem bz_nat (Z : Nat) : bz (Z : Int) = BitVec.ofNat 16 Z := by unfold bz; rw [BitVec.ofInt_natCast]
theorem bz_xor {a b : Int} (ha : F8 a) (hb : F8 b) : bz (bits .xor .u8 a b) = bz a ^^^ bz b := by
  obtain ⟨a1, a2⟩ := ha
  obtain ⟨b1, b2⟩ := hb
  rw [u8_xor a b a1 (by omega) b1 (by omega)]
  obtain ⟨X, rfl⟩ := Int.eq_ofNat_of_zero_le a1
  obtain ⟨Y, rfl⟩ := Int.eq_ofNat_of_zero_le b1
  rw [bz_nat, bz_nat, bz_nat, Int.toNat_natCast, Int.toNat_natCast, BitVec.ofNat_xor]
theorem f8_xor {a b : Int} (ha : F8 a) (hb : F8 b) : F8 (bits .xor .u8 a b) := by
  obtain ⟨a1, a2⟩ := ha
  obtain ⟨b1, b2⟩ := hb
  rw [u8_xor a b a1 (by omega) b1 (by omega)]
  have := Nat.xor_lt_two_pow (n := 8) (x := a.toNat) (y := b.toNat) (by omega) (by omega)
  exact ⟨by omega, by omega⟩
theorem beh_xor {s t : BitVec 16} {x y z : Int} (h : bz z = bz x ^^^ bz y) : beh (s ^^^ t) z = beh s x ^^^ beh t y := by
  unfold beh
  rw [h, BitVec.shiftLeft_xor_distrib, xor_mid, stps_xor]
theorem beh_shift (s d : BitVec 16) (z : Int) : beh (s ^^^ d) z = beh s z ^^^ stps 8 d := by
  unfold beh
  rw [BitVec.xor_assoc, BitVec.xor_comm d, ← BitVec.xor_assoc, stps_xor]
theorem goes_shift (s d : BitVec 16) (zs : List Int) : goes (s ^^^ d) zs = goes s zs ^^^ stps (8 * zs.length) d := by
  induction zs generalizing s d with
  | nil => rfl
  | cons z zs ih =>
    show goes (beh (s ^^^ d) z) zs = goes (beh s z) zs ^^^ _
    rw [beh_shift, ih, ← stps_add, List.length_cons, Nat.mul_add]
/-- A byte turned in a row. -/
theorem goes_set (s : BitVec 16) (zs : List Int) (j : Nat) (hj : j < zs.length) (z : Int) (d : BitVec 16) (h : bz z = bz (zs[j]?.getD 0) ^^^ d) :
    goes s (zs.set j z) = goes s zs ^^^ stps (8 * (zs.length - j)) (d <<< 8) := by
  induction zs generalizing s j with
  | nil => simp at hj
  | cons y zs ih =>
    cases j with
    | zero =>
      show goes (beh s z) zs = goes (beh s y) zs ^^^ _
      have e : beh s z = beh s y ^^^ stps 8 (d <<< 8) := by
        unfold beh
        rw [h]
        show stps 8 (s ^^^ (bz y ^^^ d) <<< 8) = _
        rw [BitVec.shiftLeft_xor_distrib, ← BitVec.xor_assoc, stps_xor]
      rw [e, goes_shift, ← stps_add]
      rfl
    | succ j =>
      show goes (beh s y) (zs.set j z) = goes (beh s y) zs ^^^ _
      rw [ih (beh s y) j (by simpa using hj) (by simpa using h)]
      simp
/-- Three rows together. -/
theorem goes_three (s t u : BitVec 16) (a b c zs : List Int) (n : Nat) (ha : a.length = n) (hb : b.length = n) (hc : c.length = n) (hz : zs.length = n)
    (h : ∀ j : Nat, j < n → bz (zs[j]?.getD 0) = bz (a[j]?.getD 0) ^^^ bz (b[j]?.getD 0) ^^^ bz (c[j]?.getD 0)) : goes (s ^^^ t ^^^ u) zs = goes s a ^^^ goes t b ^^^ goes u c := by
  have key : ∀ k, k ≤ n → goes (s ^^^ t ^^^ u) (zs.take k) = goes s (a.take k) ^^^ goes t (b.take k) ^^^ goes u (c.take k) := by
    intro k
    induction k with
    | zero => intro _; rfl
    | succ k ih =>
      intro hk
      rw [goes_take _ _ _ (by omega), goes_take _ _ _ (by omega), goes_take _ _ _ (by omega), goes_take _ _ _ (by omega), ih (by omega)]
      generalize goes s (a.take k) = S
      generalize goes t (b.take k) = T
      generalize goes u (c.take k) = U
      have hk := h k (by omega)
      unfold beh
      rw [hk, BitVec.shiftLeft_xor_distrib, BitVec.shiftLeft_xor_distrib, ← stps_xor, ← stps_xor, xor_mid (S ^^^ T) U, xor_mid S T]
  have := key n (Nat.le_refl _)
  rwa [List.take_of_length_le (by omega), List.take_of_length_le (by omega), List.take_of_length_le (by omega), List.take_of_length_le (by omega)] at this
theorem byte_steps : ∀ Z : Nat, Z < 256 → BitVec.ofNat 16 Z <<< 8 = stps 8 (BitVec.ofNat 16 Z) := by decide +kernel
theorem bz_steps {z : Int} (h : F8 z) : bz z <<< 8 = stps 8 (bz z) := by
  obtain ⟨h1, h2⟩ := h
  obtain ⟨Z, rfl⟩ := Int.eq_ofNat_of_zero_le h1
  rw [bz_nat]
  exact byte_steps Z (by omega)
theorem bz_toNat {z : Int} (h : F8 z) : ((bz z).toNat : Int) = z := by
  obtain ⟨h1, h2⟩ := h
  obtain ⟨Z, rfl⟩ := Int.eq_ofNat_of_zero_le h1
  rw [bz_nat, BitVec.toNat_ofNat]
  omega
/-- Two bytes, side by side, that turn nothing are none. -/
theorem two_none {x y : Int} (hx : F8 x) (hy : F8 y) (h : bz x <<< 8 ^^^ bz y = 0#16) : x = 0 ∧ y = 0 := by
  have e := congrArg BitVec.toNat (xor_eq h)
  have e1 := bz_small hx.1 hx.2
  have e2 := bz_toNat hy
  obtain ⟨h1, h2⟩ := hx
  obtain ⟨h3, h4⟩ := hy
  omega
theorem goes_unlike (s : BitVec 16) (zs : List Int) (j : Nat) (hj : j + 1 < zs.length) (x y a b : Int) (hx : F8 x) (hy : F8 y) (ha : bz a = bz (zs[j]?.getD 0) ^^^ bz x) (hb : bz b = bz (zs[j + 1]?.getD 0) ^^^ bz y)
    (h : goes s ((zs.set j a).set (j + 1) b) = goes s zs) : x = 0 ∧ y = 0 := by
  have e1 := goes_set s (zs.set j a) (j + 1) (by simpa using hj) b (bz y) (by simpa using hb)
  rw [goes_set s zs j (by omega) a (bz x) ha, h, List.length_set] at e1
  have hn : 8 * (zs.length - j) = 8 * (zs.length - (j + 1)) + 8 := by omega
  rw [hn, stps_add, BitVec.xor_assoc, ← stps_xor, bz_steps hy, ← stps_xor] at e1
  have e2 : stps (8 * (zs.length - (j + 1))) (stps 8 (bz x <<< 8 ^^^ bz y)) = 0#16 := by
    have e3 := congrArg (fun t => goes s zs ^^^ t) e1
    simp only [← BitVec.xor_assoc, BitVec.xor_self, BitVec.zero_xor] at e3
    exact e3.symm
  exact two_none hx hy (stps_one (stps_one e2))
/-- What is opened comes to nothing. -/
theorem opens_zero {zs : List Int} (hw : ∀ n ∈ zs, (Lit.int .u8 n).wf = true) (h : opens zs = true) : sumOf zs = 0#16 := by
  have h3 : 2 ≤ zs.length := by unfold opens at h; simp at h; omega
  obtain ⟨m, hm⟩ : ∃ m, zs.length = m + 2 := ⟨zs.length - 2, by omega⟩
  have h2 : ((sumOf (zs.take m)).toNat : Int) = zs[m]?.getD 0 * 256 + zs[m + 1]?.getD 0 := by
    unfold opens lastTwo at h
    rw [hm] at h
    simpa using h
  obtain ⟨p1, p2⟩ := range_u8 hw m
  obtain ⟨q1, q2⟩ := range_u8 hw (m + 1)
  have e : zs = zs.take (m + 1 + 1) := by rw [List.take_of_length_le (by omega)]
  unfold sumOf
  rw [e, goes_take _ _ _ (by omega), goes_take _ _ _ (by omega)]
  show beh (beh (sumOf (zs.take m)) _) _ = _
  generalize zs[m]?.getD 0 = X at *
  generalize zs[m + 1]?.getD 0 = Y at *
  have e2 : sumOf (zs.take m) = bz X <<< 8 ^^^ bz Y := by
    apply BitVec.eq_of_toNat_eq
    have hX := bz_small p1 p2
    have hY := bz_toNat ⟨q1, q2⟩
    have hj := Nat.shiftLeft_add_eq_or_of_lt (a := X.toNat) (b := Y.toNat) (i := 8) (by omega)
    have hd : (bz X <<< 8 ^^^ bz Y).toNat = (bz X <<< 8).toNat + (bz Y).toNat := by
      rw [BitVec.toNat_xor]
      have e5 : (bz X <<< 8 : BitVec 16).toNat = X.toNat * 2 ^ 8 := by omega
      have e6 : (bz Y).toNat = Y.toNat := by omega
      rw [e5, e6]
      have := Nat.two_pow_add_eq_or_of_lt (i := 8) (b := Y.toNat) (by omega) X.toNat
      apply Nat.eq_of_testBit_eq
      intro i
      rw [Nat.testBit_xor]
      rw [Nat.mul_comm, this, Nat.testBit_or]
      rcases Nat.lt_or_ge i 8 with hi | hi
      · rw [Nat.testBit_two_pow_mul]
        simp [show ¬ 8 ≤ i by omega]
      · rw [Nat.testBit_lt_two_pow (x := Y.toNat) (i := i) (Nat.lt_of_lt_of_le (by omega : Y.toNat < 2 ^ 8) (Nat.pow_le_pow_right (by omega) hi))]
        simp
    omega
  have e7 : beh (sumOf (zs.take m)) X = bz Y <<< 8 := by
    unfold beh
    rw [e2, bz_steps ⟨q1, q2⟩, BitVec.xor_assoc, BitVec.xor_comm (bz Y), ← BitVec.xor_assoc, BitVec.xor_self, BitVec.zero_xor]
  rw [e7]
  unfold beh
  rw [BitVec.xor_self, stps_zero]
theorem opens_sealed (zs : List Int) : opens (sealed zs) = true := by
  unfold opens lastTwo sealed
  simp only [List.length_append, List.length_cons, List.length_nil, Nat.zero_add]
  rw [show zs.length + (1 + 1) - 2 = zs.length by omega, show zs.length + (1 + 1) - 1 = zs.length + 1 by omega, List.take_left' rfl]
  simp
  omega

/-- The first k of sixteen bits. -/
def topk (b : BitVec 16) : Nat → BitVec 16
  | 0 => 0#16
  | k + 1 => topk b k ^^^ (if b.getLsbD (15 - k) then 1#16 <<< (15 - k) else 0#16)
theorem one_bit : ∀ a : Nat, a < 16 → ∀ i : Nat, i < 16 → (1#16 <<< a).getLsbD i = decide (i = a) := by decide
theorem topk_bit (b : BitVec 16) (k : Nat) (hk : k ≤ 16) (i : Nat) (hi : i < 16) : (topk b k).getLsbD i = (b.getLsbD i && decide (16 - k ≤ i)) := by
  induction k with
  | zero => simp [topk]; omega
  | succ k ih =>
    rw [topk, BitVec.getLsbD_xor, ih (by omega)]
    have e := one_bit (15 - k) (by omega) i hi
    rcases Nat.lt_trichotomy i (15 - k) with h | h | h
    · rw [decide_eq_false (by omega)] at e
      rw [decide_eq_false (show ¬ 16 - k ≤ i by omega), decide_eq_false (show ¬ 16 - (k + 1) ≤ i by omega)]
      cases b.getLsbD (15 - k) <;> simp [e]
    · rw [decide_eq_true h] at e
      rw [decide_eq_false (show ¬ 16 - k ≤ i by omega), decide_eq_true (show 16 - (k + 1) ≤ i by omega), ← h]
      rw [← h] at e
      cases b.getLsbD i <;> simp [e]
    · rw [decide_eq_false (by omega)] at e
      rw [decide_eq_true (show 16 - k ≤ i by omega), decide_eq_true (show 16 - (k + 1) ≤ i by omega)]
      cases b.getLsbD (15 - k) <;> simp [e]
theorem topk_all (b : BitVec 16) : topk b 16 = b := by
  apply BitVec.eq_of_getLsbD_eq
  intro i hi
  rw [topk_bit b 16 (Nat.le_refl _) i hi]
  simp
theorem one_steps : ∀ k : Nat, k < 16 → stps k 1#16 = 1#16 <<< k := by decide
theorem turn_steps : ∀ r : Nat, r < 8 → BitVec.ofNat 16 (128 / 2 ^ r) <<< 8 = stps (15 - r) 1#16 := by decide
/-- A row in which the first k of sixteen bits from place p on are turned. -/
def Turned (b : BitVec 16) (N p k : Nat) (zs : List Int) : Prop := sumOf zs = stps (8 * N - p) (topk b k)
theorem turned_keep {b : BitVec 16} {N p k : Nat} {zs : List Int} (h : Turned b N p k zs) (hb : b.getLsbD (15 - k) = false) : Turned b N p (k + 1) zs := by
  unfold Turned at *
  rw [h, topk, hb]
  simp
theorem turned_turn {b : BitVec 16} {N p k : Nat} {zs : List Int} (h : Turned b N p k zs) (hb : b.getLsbD (15 - k) = true) (hk : k < 16) (hp : p + 16 ≤ 8 * N) (hl : zs.length = N) (z : Int)
    (hz : bz z = bz (zs[(p + k) / 8]?.getD 0) ^^^ BitVec.ofNat 16 (128 / 2 ^ ((p + k) % 8))) : Turned b N p (k + 1) (zs.set ((p + k) / 8) z) := by
  unfold Turned at *
  show goes _ _ = _
  rw [goes_set _ zs _ (by omega) z _ hz, turn_steps _ (Nat.mod_lt _ (by omega)), ← stps_add, topk, hb, stps_xor, if_pos rfl, ← one_steps (15 - k) (by omega), ← stps_add]
  show sumOf zs ^^^ _ = _
  rw [h, hl, show 8 * (N - (p + k) / 8) + (15 - (p + k) % 8) = 8 * N - p + (15 - k) by omega]
theorem turned_none {zs : List Int} (hw : ∀ n ∈ zs, (Lit.int .u8 n).wf = true) (b : BitVec 16) (N p : Nat) : Turned b N p 0 (sealed zs) := by
  unfold Turned
  rw [topk, stps_zero]
  exact opens_zero (sealed_wf hw) (opens_sealed zs)
theorem turned_shut {b : BitVec 16} {N p : Nat} {zs : List Int} (h : Turned b N p 16 zs) (hw : ∀ n ∈ zs, (Lit.int .u8 n).wf = true) (hb : b ≠ 0#16) : opens zs = false := by
  cases ho : opens zs with
  | false => rfl
  | true =>
    exfalso
    unfold Turned at h
    rw [topk_all, opens_zero hw ho] at h
    exact hb (stps_one h.symm)
theorem bit_of (s : BitVec 16) (m : Nat) : (bits .and .u16 ((s.toNat : Int) / 2 ^ m) 1 == 1) = s.getLsbD m := by
  have hs := s.isLt
  have hle : s.toNat / 2 ^ m ≤ s.toNat := Nat.div_le_self _ _
  have h := u16_and_nat (s.toNat / 2 ^ m) 1 (by omega) (by omega)
  rw [Nat.and_one_is_mod] at h
  have e : ((s.toNat / 2 ^ m : Nat) : Int) = (s.toNat : Int) / 2 ^ m := by simp
  rw [e] at h
  have h' : bits .and .u16 ((s.toNat : Int) / 2 ^ m) 1 = ((s.toNat / 2 ^ m % 2 : Nat) : Int) := h
  rw [h', BitVec.getLsbD, Nat.testBit_eq_decide_div_mod_eq]
  rcases Nat.mod_two_eq_zero_or_one (s.toNat / 2 ^ m) with h0 | h0 <;> rw [h0] <;> rfl
theorem turn_byte (r : Nat) : F8 ((128 : Int) / 2 ^ r) ∧ bz ((128 : Int) / 2 ^ r) = BitVec.ofNat 16 (128 / 2 ^ r) := by
  have e : ((128 / 2 ^ r : Nat) : Int) = (128 : Int) / 2 ^ r := by simp
  have hle : 128 / 2 ^ r ≤ 128 := Nat.div_le_self _ _
  rw [← e]
  clear e
  generalize 128 / 2 ^ r = q at hle ⊢
  exact ⟨⟨by omega, by omega⟩, bz_nat _⟩
theorem sealed_take (zs : List Int) : (sealed zs).take zs.length = zs := by unfold sealed; rw [List.take_left' rfl]
theorem sealed_hi (zs : List Int) : (sealed zs)[zs.length]?.getD 0 = ((sumOf zs).toNat : Int) / 256 := by unfold sealed; simp
theorem sealed_lo (zs : List Int) : (sealed zs)[zs.length + 1]?.getD 0 = ((sumOf zs).toNat : Int) % 256 := by unfold sealed; simp
end Go.Proofs.Ytbdlpkkgfhknkaa

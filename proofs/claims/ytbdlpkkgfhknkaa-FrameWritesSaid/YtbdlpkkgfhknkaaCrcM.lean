/- The mathematics of the sum of 16 bits: a step is linear and loses nothing. Nothing here speaks of one program. -/
import Derived.Laws.BitsAllLaws
import Derived.Laws.BitsLemmas
namespace Go.Proofs.Ytbdlpkkgfhknkaa

/-- A sum behind one shift. -/
def stp (s : BitVec 16) : BitVec 16 := s <<< 1 ^^^ (if s.msb then 4129#16 else 0#16)
theorem stp_zero : stp 0#16 = 0#16 := by decide
theorem xor_mid (a b c d : BitVec 16) : (a ^^^ b) ^^^ (c ^^^ d) = (a ^^^ c) ^^^ (b ^^^ d) := by
  rw [BitVec.xor_assoc, ← BitVec.xor_assoc b c d, BitVec.xor_comm b c, BitVec.xor_assoc c b d, ← BitVec.xor_assoc]
theorem stp_xor (a b : BitVec 16) : stp (a ^^^ b) = stp a ^^^ stp b := by
  unfold stp
  rw [BitVec.shiftLeft_xor_distrib, BitVec.msb_xor, xor_mid]
  congr 1
  cases a.msb <;> cases b.msb <;> simp
theorem stp_one {a : BitVec 16} (h : stp a = 0#16) : a = 0#16 := by
  have h0 : (stp a).getLsbD 0 = false := by rw [h]; decide
  unfold stp at h h0
  cases hm : a.msb
  · rw [hm] at h
    simp only [Bool.false_eq_true, if_false, BitVec.xor_zero] at h
    apply BitVec.eq_of_toNat_eq
    have h1 := congrArg BitVec.toNat h
    rw [BitVec.msb_eq_decide] at hm
    have h2 : a.toNat < 32768 := by simpa using hm
    rw [BitVec.toNat_shiftLeft, Nat.shiftLeft_eq] at h1
    simp at h1 ⊢
    omega
  · rw [hm] at h0
    simp at h0
/-- A sum behind so many shifts. -/
def stps : Nat → BitVec 16 → BitVec 16
  | 0, s => s
  | k + 1, s => stp (stps k s)
theorem stps_add (a b : Nat) (s : BitVec 16) : stps (a + b) s = stps a (stps b s) := by
  induction a with
  | zero => simp [stps]
  | succ a ih => rw [Nat.add_right_comm, stps, stps, ih]
theorem stps_zero (k : Nat) : stps k 0#16 = 0#16 := by
  induction k with
  | zero => rfl
  | succ k ih => rw [stps, ih, stp_zero]
theorem stps_xor (k : Nat) (a b : BitVec 16) : stps k (a ^^^ b) = stps k a ^^^ stps k b := by
  induction k with
  | zero => rfl
  | succ k ih => rw [stps, ih, stp_xor, stps, stps]
theorem stps_one {k : Nat} {a : BitVec 16} (h : stps k a = 0#16) : a = 0#16 := by
  induction k with
  | zero => exact h
  | succ k ih => exact ih (stp_one h)
theorem xor_eq {a b : BitVec 16} (h : a ^^^ b = 0#16) : a = b := by
  have : a ^^^ b ^^^ b = b := by rw [h]; simp
  rwa [BitVec.xor_assoc, BitVec.xor_self, BitVec.xor_zero] at this

/-- A byte as a sum's lowest bits. -/
def bz (z : Int) : BitVec 16 := BitVec.ofInt 16 z
/-- The sum behind a byte. -/
def beh (s : BitVec 16) (z : Int) : BitVec 16 := stps 8 (s ^^^ bz z <<< 8)
/-- The sum behind bytes. -/
def goes (s : BitVec 16) (zs : List Int) : BitVec 16 := zs.foldl beh s
theorem goes_snoc (s : BitVec 16) (zs : List Int) (z : Int) : goes s (zs ++ [z]) = beh (goes s zs) z := by simp [goes]
theorem goes_append (s : BitVec 16) (a b : List Int) : goes s (a ++ b) = goes (goes s a) b := by simp [goes]
theorem goes_take (s : BitVec 16) (zs : List Int) (k : Nat) (h : k < zs.length) : goes s (zs.take (k + 1)) = beh (goes s (zs.take k)) (zs[k]?.getD 0) := by
  rw [List.take_add_one, List.getElem?_eq_getElem h]
  exact goes_snoc _ _ _
theorem bz_small {z : Int} (h1 : 0 ≤ z) (h2 : z ≤ 255) : ((bz z <<< 8 : BitVec 16).toNat : Int) = z * 256 := by
  obtain ⟨Z, rfl⟩ := Int.eq_ofNat_of_zero_le h1
  unfold bz
  rw [BitVec.toNat_shiftLeft, ofInt_u16 Z (by omega), Nat.shiftLeft_eq]
  omega
theorem xor_toNat (a b : BitVec 16) : bits .xor .u16 (a.toNat : Int) (b.toNat : Int) = ((a ^^^ b).toNat : Int) := by
  have h1 := a.isLt
  have h2 := b.isLt
  rw [u16_xor_nat _ _ (by omega) (by omega), BitVec.toNat_xor]
theorem xor_byte (s : BitVec 16) {z : Int} (h1 : 0 ≤ z) (h2 : z ≤ 255) : bits .xor .u16 (s.toNat : Int) (z * 256) = ((s ^^^ bz z <<< 8).toNat : Int) := by
  rw [← bz_small h1 h2, xor_toNat]
theorem twice_toNat (a : BitVec 16) : ((a <<< 1 : BitVec 16).toNat : Int) = (a.toNat : Int) * 2 % 65536 := by
  rw [BitVec.toNat_shiftLeft, Nat.shiftLeft_eq]
  omega
theorem msb_yes {a : BitVec 16} (h : a.msb = true) : (a.toNat : Int) / 32768 = 1 := by
  have := a.isLt
  rw [BitVec.msb_eq_decide] at h
  have h2 : 32768 ≤ a.toNat := by simpa using h
  omega
theorem msb_no {a : BitVec 16} (h : a.msb = false) : (a.toNat : Int) / 32768 = 0 := by
  rw [BitVec.msb_eq_decide] at h
  have h2 : a.toNat < 32768 := by simpa using h
  omega
theorem stp_yes {a : BitVec 16} (h : a.msb = true) : ((stp a).toNat : Int) = bits .xor .u16 ((a.toNat : Int) * 2 % 65536) 4129 := by
  have e : (4129 : Int) = ((4129#16).toNat : Int) := rfl
  rw [← twice_toNat, e, xor_toNat]
  unfold stp
  rw [if_pos h]
theorem stp_no {a : BitVec 16} (h : a.msb = false) : ((stp a).toNat : Int) = (a.toNat : Int) * 2 % 65536 := by
  rw [← twice_toNat]
  unfold stp
  rw [h]
  simp

/-- The sum amid a byte, where its bits are met one by one. -/
def rst (s : BitVec 16) (z : Int) (j : Nat) : BitVec 16 := stps j (s ^^^ bz z <<< 8) ^^^ bz z <<< (8 + j)
theorem rst_zero (s : BitVec 16) (z : Int) : rst s z 0 = s := by
  unfold rst stps
  rw [BitVec.xor_assoc, Nat.add_zero, BitVec.xor_self, BitVec.xor_zero]
theorem rst_last (s : BitVec 16) (z : Int) : rst s z 8 = beh s z := by
  unfold rst beh
  rw [show bz z <<< (8 + 8) = 0#16 from BitVec.shiftLeft_eq_zero (by decide), BitVec.xor_zero]
theorem rst_step (s : BitVec 16) (z : Int) (j : Nat) : rst s z (j + 1) = rst s z j <<< 1 ^^^ (if (rst s z j).msb != (bz z <<< (8 + j)).msb then 4129#16 else 0#16) := by
  have h : stps j (s ^^^ bz z <<< 8) = rst s z j ^^^ bz z <<< (8 + j) := by
    unfold rst
    rw [BitVec.xor_assoc, BitVec.xor_self, BitVec.xor_zero]
  have e : rst s z (j + 1) = stp (stps j (s ^^^ bz z <<< 8)) ^^^ bz z <<< (8 + (j + 1)) := rfl
  rw [e, h]
  unfold stp
  rw [BitVec.shiftLeft_xor_distrib, BitVec.msb_xor, ← BitVec.shiftLeft_add, ← Nat.add_assoc]
  generalize rst s z j <<< 1 = a
  generalize bz z <<< (8 + j + 1) = b
  rw [BitVec.xor_assoc, BitVec.xor_assoc, BitVec.xor_comm b, BitVec.xor_assoc, BitVec.xor_self, BitVec.xor_zero]

theorem ofInt_i64 (a : Nat) (ha : a < 9223372036854775808) : (BitVec.ofInt 64 (a : Int)).toNat = a := by
  rw [BitVec.ofInt_natCast, BitVec.toNat_ofNat]; exact Nat.mod_eq_of_lt (by omega)
theorem i64_and_nat (a b : Nat) (ha : a < 9223372036854775808) (hb : b < 9223372036854775808) : bits .and .i64 (a : Int) (b : Int) = ((a &&& b : Nat) : Int) := by
  have hx : a &&& b < 2 ^ 63 := Nat.and_lt_two_pow _ (by omega)
  show IntKind.i64.wrap ((BitVec.ofInt 64 (a : Int) &&& BitVec.ofInt 64 (b : Int)).toNat : Int) = _
  rw [BitVec.toNat_and, ofInt_i64 a ha, ofInt_i64 b hb, IntKind.wrap_i64]
  omega
theorem i64_xor_nat (a b : Nat) (ha : a < 9223372036854775808) (hb : b < 9223372036854775808) : bits .xor .i64 (a : Int) (b : Int) = ((a ^^^ b : Nat) : Int) := by
  have hx : a ^^^ b < 2 ^ 63 := Nat.xor_lt_two_pow (by omega) (by omega)
  show IntKind.i64.wrap ((BitVec.ofInt 64 (a : Int) ^^^ BitVec.ofInt 64 (b : Int)).toNat : Int) = _
  rw [BitVec.toNat_xor, ofInt_i64 a ha, ofInt_i64 b hb, IntKind.wrap_i64]
  omega
theorem i64_and_one {a : Int} (h1 : 0 ≤ a) (h2 : a ≤ 255) : bits .and .i64 a 1 = a % 2 := by
  obtain ⟨A, rfl⟩ := Int.eq_ofNat_of_zero_le h1
  have := i64_and_nat A 1 (by omega) (by omega)
  rw [Nat.and_one_is_mod] at this
  simpa using this
theorem msb_int (a : BitVec 16) : (a.toNat : Int) / 32768 = if a.msb then 1 else 0 := by
  cases h : a.msb
  · rw [msb_no h]; rfl
  · rw [msb_yes h]; rfl
theorem bit_all : ∀ Z : Nat, Z < 256 → ∀ j : Nat, j < 8 → Z / 2 ^ (7 - j) % 2 = Z * 2 ^ (8 + j) % 65536 / 32768 := by decide +kernel
/-- The bit of a byte that is met behind j others. -/
theorem bit_met {z : Int} (h1 : 0 ≤ z) (h2 : z ≤ 255) {j : Nat} (hj : j < 8) : bits .and .i64 (z / 2 ^ (7 - j)) 1 = if (bz z <<< (8 + j)).msb then 1 else 0 := by
  obtain ⟨Z, rfl⟩ := Int.eq_ofNat_of_zero_le h1
  have e : ((bz (Z : Int) <<< (8 + j) : BitVec 16).toNat : Int) = (Z : Int) * 2 ^ (8 + j) % 65536 := by
    unfold bz
    rw [BitVec.toNat_shiftLeft, ofInt_u16 Z (by omega), Nat.shiftLeft_eq]
    simp
  rw [← msb_int, e, i64_and_one]
  · have h := bit_all Z (by omega) j hj
    have h3 : ((Z / 2 ^ (7 - j) % 2 : Nat) : Int) = ((Z * 2 ^ (8 + j) % 65536 / 32768 : Nat) : Int) := by rw [h]
    simpa using h3
  · exact Int.ediv_nonneg h1 (by exact Int.le_of_lt (Int.pow_pos (by omega)))
  · exact Int.le_trans (Int.ediv_le_self _ h1) h2
theorem bits_differ (a b : Bool) : (((if a then 1 else 0 : Int)) != (if b then 1 else 0)) = (a != b) := by cases a <;> cases b <;> rfl
theorem rst_yes {s : BitVec 16} {z : Int} {j : Nat} (h : ((rst s z j).msb != (bz z <<< (8 + j)).msb) = true) : ((rst s z (j + 1)).toNat : Int) = bits .xor .i64 (((rst s z j).toNat : Int) * 2 % 65536) 4129 := by
  rw [rst_step, if_pos h, ← twice_toNat]
  have := (rst s z j <<< 1).isLt
  have e := i64_xor_nat (rst s z j <<< 1).toNat 4129 (by omega) (by omega)
  rw [BitVec.toNat_xor]
  exact e.symm
theorem rst_no {s : BitVec 16} {z : Int} {j : Nat} (h : ((rst s z j).msb != (bz z <<< (8 + j)).msb) = false) : ((rst s z (j + 1)).toNat : Int) = ((rst s z j).toNat : Int) * 2 % 65536 := by
  rw [rst_step, h, ← twice_toNat]
  simp
end Go.Proofs.Ytbdlpkkgfhknkaa

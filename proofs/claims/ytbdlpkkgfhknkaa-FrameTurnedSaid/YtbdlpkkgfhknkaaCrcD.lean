/- What Open answers. -/
import Derived.Test.YtbdlpkkgfhknkaaCrcC
namespace Go.Proofs.Ytbdlpkkgfhknkaa
open Go.RowKit

/-- The two bytes behind a row, the higher one first. -/
def lastTwo (zs : List Int) : Int := zs[zs.length - 2]?.getD 0 * 256 + zs[zs.length - 1]?.getD 0
/-- Does a row's sum stand behind it? -/
def opens (zs : List Int) : Bool := decide (2 ≤ zs.length) && (((sumOf (zs.take (zs.length - 2))).toNat : Int) == lastTwo zs)
def OpenNo (w : World) (e : Ending) (w' : World) : Prop := e = .returned (.tuple #[.slice none 0 0, .bool false]) ∧ Below w.heap.size w w'
def OpenYes (el : TypeId) (w : World) (n : Nat) (zs : List Int) (e : Ending) (w' : World) : Prop :=
  ∃ A c, e = .returned (.tuple #[.slice A n c, .bool true]) ∧ w'.ownsRow w.heap.size el 1 (.slice A n c) n (zs.map (.int .u8)) ∧ Below w.heap.size w w'

theorem u16_join {a b : Int} (a1 : 0 ≤ a) (a2 : a ≤ 255) (b1 : 0 ≤ b) (b2 : b ≤ 255) : bits .or .u16 (a * 256) b = a * 256 + b := by
  obtain ⟨X, rfl⟩ := Int.eq_ofNat_of_zero_le a1
  obtain ⟨Y, rfl⟩ := Int.eq_ofNat_of_zero_le b1
  have h := u16_or_nat (X * 256) Y (by omega) (by omega)
  have e := Nat.shiftLeft_add_eq_or_of_lt (a := X) (b := Y) (i := 8) (by omega)
  rw [Nat.shiftLeft_eq] at e
  rw [show (2 : Nat) ^ 8 = 256 by decide] at e
  rw [← e] at h
  rw [show ((X : Int) * 256) = ((X * 256 : Nat) : Int) by simp, h]
  simp
theorem open_yes (A : Option Addr) (n c : Nat) (zs : List Int) (w : World) (hr : Bytes w A n c zs) (hn : n ≤ 65540) (h : opens zs = true) :
    Calls Try.prog 32 #[.slice A n c] w (OpenYes 5 w (n - 2) (zs.take (n - 2))) := by
  obtain ⟨i0, hi, hz0, hz1, hz2⟩ := info_parts crc_info
  have H2 := Lib.hid hz2
  have H1 := Lib.hid hz1
  have H0 := Lib.hid hz0
  have hl := hr.len_eq
  have h3 : 2 ≤ n := by unfold opens at h; simp at h; omega
  obtain ⟨m, rfl⟩ : ∃ m, n = m + 2 := ⟨n - 2, by omega⟩
  have h2 : ((sumOf (zs.take m)).toNat : Int) = zs[m]?.getD 0 * 256 + zs[m + 1]?.getD 0 := by
    unfold opens lastTwo at h
    rw [hl] at h
    simpa using h
  have hrow := hr.pre (m := m) (by omega)
  have hsum := fun k : Nat => sum_any A m c _ (w.drewN k) (hrow.drewN k)
  obtain ⟨b, off, rfl, hb, hc⟩ := hr.cell (by omega)
  have c1 := hc m (by omega)
  have c2 := hc (m + 1) (by omega)
  have hcap := hr.cap_le
  have hmx := hr.max
  unfold maxLen at hmx
  obtain ⟨p1, p2⟩ := range_u8 hr.wf m
  obtain ⟨q1, q2⟩ := range_u8 hr.wf (m + 1)
  rw [List.getD_eq_getElem?_getD] at c1 c2
  obtain ⟨X, hX⟩ : ∃ X : Int, zs[m]?.getD 0 = X := ⟨_, rfl⟩
  obtain ⟨Y, hY⟩ : ∃ Y : Int, zs[m + 1]?.getD 0 = Y := ⟨_, rfl⟩
  rw [hX] at p1 p2 c1 h2
  rw [hY] at q1 q2 c2 h2
  have hj := u16_join p1 p2 q1 q2
  simp only [h2] at hsum
  have e : m + 2 - 2 = m := by omega
  rw [e]
  have HR := Lib.hid hrow
  clear hc hX hY h2 h hl e hr hrow hz0 hz1 hz2
  have hc : c ≤ 9223372036854775807 := by omega
  go_enter Try.func32, Try.ntmps32
  go_wp2
  go_quiet (fail)
  go_wp2_with (first
    | (go_at_call 38; refine (hsum _).mono ?_; rintro e w' ⟨rfl, rfl⟩)
    | (at_builtin; refine wpList_append_row _ rfl (.tmp 31) (.tmp 34) _ rfl w.heap.size 5 i0 _ 1 Try.underlying29 hi H0.out H1.out H2.out rfl _ 0 [] rfl (World.ownsRow_lit (base := w.heap.size) (size := 1) (w.drewN _) #[] 0 (Nat.le_refl _) (by simp [maxLen]) (by simp)) .u8 _ m c _ rfl ((HR.out.drewN _).alloc _) (by unfold maxLen; omega) (by omega) (by simp) ?_; intro A3 c3 w3 hown3 hb3; simp only [Nat.zero_add, List.nil_append] at hown3))
  go_ret2
  exact ⟨A3, c3, rfl, hown3, ((below_drewN (Below.refl _ _) _).alloc (Nat.le_refl _) _).trans hb3⟩
theorem open_short (A : Option Addr) (n c : Nat) (w : World) (h : n < 2) :
    Calls Try.prog 32 #[.slice A n c] w (OpenNo w) := by
  go_enter Try.func32, Try.ntmps32
  go_wp2
  go_ret2
  exact ⟨rfl, Below.refl _ _⟩
theorem open_no (A : Option Addr) (n c : Nat) (zs : List Int) (w : World) (hr : Bytes w A n c zs) (hn : n ≤ 65540) (h : opens zs = false) :
    Calls Try.prog 32 #[.slice A n c] w (OpenNo w) := by
  have hl := hr.len_eq
  by_cases h3 : n < 2
  · exact open_short A n c w h3
  obtain ⟨m, rfl⟩ : ∃ m, n = m + 2 := ⟨n - 2, by omega⟩
  have h2 : (((sumOf (zs.take m)).toNat : Int) == zs[m]?.getD 0 * 256 + zs[m + 1]?.getD 0) = false := by
    unfold opens lastTwo at h
    rw [hl] at h
    simpa using h
  have hrow := hr.pre (m := m) (by omega)
  have hsum := fun k : Nat => sum_any A m c _ (w.drewN k) (hrow.drewN k)
  obtain ⟨b, off, rfl, hb, hc⟩ := hr.cell (by omega)
  have c1 := hc m (by omega)
  have c2 := hc (m + 1) (by omega)
  have hcap := hr.cap_le
  have hmx := hr.max
  unfold maxLen at hmx
  obtain ⟨p1, p2⟩ := range_u8 hr.wf m
  obtain ⟨q1, q2⟩ := range_u8 hr.wf (m + 1)
  rw [List.getD_eq_getElem?_getD] at c1 c2
  obtain ⟨X, hX⟩ : ∃ X : Int, zs[m]?.getD 0 = X := ⟨_, rfl⟩
  obtain ⟨Y, hY⟩ : ∃ Y : Int, zs[m + 1]?.getD 0 = Y := ⟨_, rfl⟩
  rw [hX] at p1 p2 c1 h2
  rw [hY] at q1 q2 c2 h2
  have hj := u16_join p1 p2 q1 q2
  obtain ⟨T, hT⟩ : ∃ T : Int, ((sumOf (zs.take m)).toNat : Int) = T := ⟨_, rfl⟩
  rw [hT] at h2
  simp only [hT] at hsum
  have h4 : (T != X * 256 + Y) = true := by simpa [bne] using h2
  clear hc hX hY h h2 hl hr hrow hT
  have hc : c ≤ 9223372036854775807 := by omega
  go_enter Try.func32, Try.ntmps32
  go_wp2
  go_quiet (fail)
  go_wp2_with (first
    | (go_at_call 38; refine (hsum _).mono ?_; rintro e w' ⟨rfl, rfl⟩))
  go_ret2
  exact ⟨rfl, below_drewN (Below.refl _ _) _⟩
end Go.Proofs.Ytbdlpkkgfhknkaa

/- The law's helpers: In, same; Wide of nil. -/
import Derived.Test.YtfekblikiemogaaDoorLkW
import Derived.Test.YtfekblikiemogaaDoorLkP
import Derived.Deep.QuietTactic
import Derived.BigQuiet
import Derived.LoopTactic
namespace Go.Proofs.YtfekblikiemogaaDoor
open Go.RowKit
set_option linter.unusedVariables false

/-- Is a node one of a set? -/
def inSet (x : Nat) (i : Int) : Bool := decide (0 ≤ i ∧ i < 64) && x.testBit i.toNat
theorem inSet_nat {x k : Nat} (h : k < 64) : inSet x (k : Int) = x.testBit k := by
  unfold inSet
  have : (0 : Int) ≤ k ∧ (k : Int) < 64 := by omega
  simp [this]
theorem rem_is (x k : Nat) : ((x : Int) / (2 : Int) ^ k).tmod 2 = ((x / 2 ^ k % 2 : Nat) : Int) := by
  rw [show ((x : Int) / (2 : Int) ^ k) = ((x / 2 ^ k : Nat) : Int) by simp, show (2 : Int) = ((2 : Nat) : Int) from rfl, ← Int.ofNat_tmod]
theorem in_any (w : World) (x : Nat) (hx : x < 18446744073709551616) (i : Int) : Calls Tryd.prog 19 #[.int .u64 x, .int .i64 i] w fun e w' => e = .returned (.bool (inSet x i)) ∧ w' = w := by
  by_cases h0 : 0 ≤ i
  · by_cases h1 : i < 64
    · obtain ⟨k, rfl⟩ : ∃ k : Nat, i = k := ⟨i.toNat, by omega⟩
      rw [inSet_nat (by omega)]
      have e1 := rem_is x k
      have e2 := bit_is x k
      obtain ⟨Y, hY⟩ : ∃ Y, x / 2 ^ k % 2 = Y := ⟨_, rfl⟩
      rw [hY] at e1 e2
      have e3 : IntKind.u64.wrap (k : Int) = k := by rw [IntKind.wrap_u64]; omega
      have hmin : min k 64 = k := by omega
      go_enter Tryd.func19, Tryd.ntmps19
      go_wp2
      go_ret
      exact ⟨rfl, rfl⟩
    · have : inSet x i = false := by unfold inSet; simp; omega
      rw [this]
      go_enter Tryd.func19, Tryd.ntmps19
      go_wp2
      go_ret
      exact ⟨rfl, rfl⟩
  · have : inSet x i = false := by unfold inSet; simp; omega
    have d : decide (0 ≤ i) = false := decide_eq_false h0
    rw [this]
    go_enter Tryd.func19, Tryd.ntmps19
    go_wp2
    go_ret
    exact ⟨rfl, rfl⟩
/-- A row of numbers, wherever it lies. -/
def Row (w : World) (A : Option Addr) (n : Nat) (zs : List Int) : Prop :=
  zs.length = n ∧ n ≤ 9223372036854775807 ∧ (0 < n → ∃ b off, A = some ⟨b, off, none⟩ ∧ b < w.heap.size ∧ ∀ j, j < n → w.cell? ⟨b, off + j, none⟩ = some (.int .i64 (zs[j]?.getD 0)))
theorem Row.below {w w' : World} {A : Option Addr} {n : Nat} {zs : List Int} (h : Row w A n zs) (hb : Below w.heap.size w w') : Row w' A n zs :=
  ⟨h.1, h.2.1, fun hn => by
    obtain ⟨b, off, e, hlt, hc⟩ := h.2.2 hn
    exact ⟨b, off, e, Nat.lt_of_lt_of_le hlt hb.size, fun j hj => (hb.cell (p := ⟨b, off + j, none⟩) hlt).trans (hc j hj)⟩⟩
theorem Row.of {w : World} {b n : Nat} {zs : List Int} (h : Holds w b 3 (ints zs)) (hl : zs.length = n) (hn : n ≤ 64) : Row w (some ⟨b, 0, none⟩) n zs :=
  ⟨hl, by omega, fun _ => ⟨b, 0, rfl, h.lt, fun j hj => by
    rw [Nat.zero_add, h.cell j]
    have : j < zs.length := by omega
    simp [ints, this]⟩⟩
set_option maxHeartbeats 2000000 in
theorem same_any (w : World) (A : Option Addr) (n c : Nat) (zs : List Int) (A' : Option Addr) (n' c' : Nat) (ys : List Int) (h : Row w A n zs) (h' : Row w A' n' ys) : Calls Tryd.prog 21 #[.slice A n c, .slice A' n' c'] w fun e w' =>
    e = .returned (.bool (decide (zs = ys))) ∧ Below w.heap.size w w' := by
  have l1 := h.1
  have l2 := h'.1
  have m1 := h.2.1
  have m2 := h'.2.1
  by_cases hn : n = n'
  · subst hn
    have H := Lib.hid h
    have H' := Lib.hid h'
    clear h h'
    have hne : ((n : Int) != (n : Int)) = false := by simp
    go_enter Tryd.func21, Tryd.ntmps21
    go_wp2
    go_loopw [13] (fun i wr => ∃ k : Nat, k ≤ n ∧ i = .int .i64 k ∧ zs.take k = ys.take k ∧ Below w.heap.size w wr) (fun i _ => n - (intOf i).toNat)
    case atStart => exact ⟨0, Nat.zero_le _, rfl, rfl, Below.refl _ _⟩
    case round =>
      obtain ⟨k, hk, rfl, ht, hb⟩ := hrel
      by_cases hlt : k < n
      · obtain ⟨b, off, rfl, hbl, hc⟩ := H.out.2.2 (by omega)
        obtain ⟨b', off', rfl, hbl', hc'⟩ := H'.out.2.2 (by omega)
        have q := (hb.cell (p := ⟨b, off + k, none⟩) hbl).trans (hc k hlt)
        have q' := (hb.cell (p := ⟨b', off' + k, none⟩) hbl').trans (hc' k hlt)
        have hz : zs[k]? = some (zs[k]?.getD 0) := by simp [show k < zs.length by omega]
        have hy : ys[k]? = some (ys[k]?.getD 0) := by simp [show k < ys.length by omega]
        obtain ⟨X, hX⟩ : ∃ X, zs[k]?.getD 0 = X := ⟨_, rfl⟩
        obtain ⟨Y, hY⟩ : ∃ Y, ys[k]?.getD 0 = Y := ⟨_, rfl⟩
        rw [hX] at q hz
        rw [hY] at q' hy
        have hki : (k : Int) < (n : Int) := by omega
        have ew := IntWalk.i64_in ((k : Int) + 1) (by omega)
        have HZ := Lib.hid hz
        have HY2 := Lib.hid hy
        have HTk := Lib.hid ht
        have HB := Lib.hid hb
        clear hX hY hz hy ht hb hc hc'
        by_cases e : X = Y
        · subst e
          have hxx : (X != X) = false := by simp
          go_wp2
          go_quiet (fail)
          go_wp2
          go_roundw
          case rel => exact ⟨k + 1, by omega, by go_num, by rw [List.take_add_one, List.take_add_one, HTk.out, HZ.out, HY2.out], below_drewN HB.out _⟩
          case measure => simp [intOf]; omega
        · have hxx : (X != Y) = true := by simp [e]
          have hne2 : ¬ zs = ys := fun e2 => e (by
            have h1 := HZ.out
            rw [e2, HY2.out] at h1
            cases h1
            rfl)
          have HNe := Lib.hid hne2
          clear e hne2
          go_wp2
          go_quiet (fail)
          go_wp2
          go_ret
          exact ⟨ret_bool (decide_eq_false HNe.out).symm, below_drewN HB.out _⟩
      · have hkn : k = n := by omega
        subst hkn
        rw [List.take_of_length_le (by omega), List.take_of_length_le (by omega)] at ht
        have HTk := Lib.hid ht
        have HB := Lib.hid hb
        clear ht hb
        go_wp2
        go_ret
        exact ⟨ret_bool (decide_eq_true HTk.out).symm, HB.out⟩
  · have hne : ((n : Int) != (n' : Int)) = true := by simp; omega
    have hz : ¬ zs = ys := fun e => hn (by rw [← l1, ← l2, e])
    have HZ := Lib.hid hz
    clear h h' hz
    go_enter Tryd.func21, Tryd.ntmps21
    go_wp2
    go_ret
    exact ⟨ret_bool (decide_eq_false HZ.out).symm, Below.refl _ _⟩
end Go.Proofs.YtfekblikiemogaaDoor

/- Package links: Set. -/
import Derived.Test.YtgmkmkheknibmaaDoorLkA
import Derived.StillTail
import Derived.StillTailTactics
namespace Go.Proofs.YtgmkmkheknibmaaDoor
open Go.RowKit
set_option linter.unusedVariables false

theorem pow_fit {k : Nat} (h : k < 64) : 2 ^ k < 18446744073709551616 := Nat.pow_lt_pow_right (by decide) h
theorem Lk.put {w : World} {B g r : Nat} {M : List Nat} (h : Lk w B g r M) (i x : Nat) (hx : x < 18446744073709551616) : Lk (w.setCell ⟨r, i, none⟩ (.int .u64 (x : Int))) B g r (M.set i x) := by
  refine ⟨?_, ?_, h.oldg, h.oldr, by rw [List.length_set]; exact h.pos, by rw [List.length_set]; exact h.le, fun y hy => ?_⟩
  · rw [List.length_set]
    exact h.ptr.far h.ne _
  · have := h.row.put i (.int .u64 (x : Int))
    have e : (setsOf M).setIfInBounds i (.int .u64 (x : Int)) = setsOf (M.set i x) := by
      unfold setsOf
      rw [List.map_set]
      simp
    rwa [e] at this
  · rcases List.mem_or_eq_of_mem_set hy with h' | rfl
    · exact h.fit y h'
    · exact hx
theorem Lk.drew {w : World} {B g r : Nat} {M : List Nat} (h : Lk w B g r M) : Lk w.drew B g r M := h.below (below_drewN (Below.refl _ _) 1)

/-- A set with a node, or without. -/
def withB (x k : Nat) (on : Bool) : Nat := if on then x ||| 2 ^ k else x &&& (18446744073709551615 - 2 ^ k)
def putM (M : List Nat) (i k : Nat) (on : Bool) : List Nat := M.set i (withB (M.getD i 0) k on)
def setM (M : List Nat) (i k : Nat) (on : Bool) : List Nat := putM (putM M i k on) k i on
theorem with_fit {x k : Nat} (hx : x < 18446744073709551616) (hk : k < 64) (on : Bool) : withB x k on < 18446744073709551616 := by
  unfold withB
  split
  · exact Nat.or_lt_two_pow (n := 64) hx (pow_fit hk)
  · exact Nat.lt_of_le_of_lt Nat.and_le_left hx
theorem with_on {x k : Nat} (hx : x < 18446744073709551616) (hk : k < 64) : bits .or .u64 (x : Int) ((2 : Int) ^ k) = (withB x k true : Nat) := by
  rw [show ((2 : Int) ^ k) = ((2 ^ k : Nat) : Int) by simp]
  rw [u64_or_nat x (2 ^ k) hx (pow_fit hk)]
  rfl
theorem with_off {x k : Nat} (hx : x < 18446744073709551616) (hk : k < 64) : bits .andNot .u64 (x : Int) ((2 : Int) ^ k) = (withB x k false : Nat) := by
  rw [show ((2 : Int) ^ k) = ((2 ^ k : Nat) : Int) by simp]
  rw [u64_andNot_nat x (2 ^ k) hx (pow_fit hk)]
  rfl
/-- What Set does. -/
def SetDid (B g r : Nat) (M : List Nat) (i k : Int) (on : Bool) (w : World) (e : Ending) (w' : World) : Prop :=
  (mayB M.length i k = false ∧ e = .returned (.int .i64 1) ∧ w' = w) ∨ (mayB M.length i k = true ∧ e = .returned (.int .i64 0) ∧ Lk w' B g r (setM M i.toNat k.toNat on) ∧ Chg (fun b => b = r) w w')
theorem set_nil (w : World) (i k : Int) (on : Bool) : Calls Tryd.prog 14 #[.pointer none, .int .i64 i, .int .i64 k, .bool on] w fun e w' => e = .returned (.int .i64 2) ∧ w' = w := by
  go_enter Tryd.func14, Tryd.ntmps14
  go_wp2
  go_ret
  exact ⟨rfl, rfl⟩
theorem shl_fit {k : Nat} (h : k < 64) : IntKind.u64.wrap ((2 : Int) ^ k) = (2 : Int) ^ k := by
  have := pow_fit h
  have h1 : ((2 ^ k : Nat) : Int) < 18446744073709551616 := Int.ofNat_lt.2 this
  have h0 : (0 : Int) ≤ ((2 ^ k : Nat) : Int) := Int.natCast_nonneg _
  rw [IntKind.wrap_u64, show ((2 : Int) ^ k) = ((2 ^ k : Nat) : Int) by simp]
  exact Int.emod_eq_of_lt h0 h1
set_option maxRecDepth 100000 in
set_option maxHeartbeats 2000000 in
theorem set_lk (w : World) (B g r : Nat) (M : List Nat) (h : Lk w B g r M) (i k : Int) (on : Bool) : Calls Tryd.prog 14 #[.pointer (some ⟨g, 0, none⟩), .int .i64 i, .int .i64 k, .bool on] w (SetDid B g r M i k on w) := by
  have hm := may_lk w B g r M h i k
  rcases hb : mayB M.length i k with _ | _
  · rw [hb] at hm
    have H := Lib.hid hb
    clear h hb
    go_enter Tryd.func14, Tryd.ntmps14
    go_wp2_with (go_at_call 22; refine hm.mono ?_; rintro e w' ⟨rfl, rfl⟩)
    go_ret
    exact .inl ⟨H.out, rfl, rfl⟩
  · rw [hb] at hm
    have HB := Lib.hid hb
    have hb' := hb
    unfold mayB at hb'
    simp only [Bool.and_eq_true, decide_eq_true_eq] at hb'
    obtain ⟨⟨b1, b2⟩, hne⟩ := hb'
    obtain ⟨a, rfl, ha⟩ := of_inB b1
    obtain ⟨b, rfl, hbn⟩ := of_inB b2
    have hab : a ≠ b := fun e => hne (by rw [e])
    have h64 := h.le
    have L0 := h.drew
    have c0 := L0.ptr.cell 0
    have q := L0.cell ha
    have f := L0.row.soft a
    have hX := L0.get_lt a
    have L1 : Lk (w.setCell ⟨r, a, none⟩ (.int .u64 ((withB (M.getD a 0) b on : Nat) : Int))).drew B g r (putM M a b on) := (h.put a _ (with_fit hX (by omega) on)).drew
    have hY := L1.get_lt b
    have hn1 : (putM M a b on).length = M.length := List.length_set
    have hc1 : Chg (fun b => b = r) w (w.setCell ⟨r, a, none⟩ (.int .u64 ((withB (M.getD a 0) b on : Nat) : Int))).drew := (Chg.set (S := fun b => b = r) w r a _ rfl).drewN 1
    obtain ⟨X, hXe⟩ : ∃ X, M.getD a 0 = X := ⟨_, rfl⟩
    obtain ⟨V, hV⟩ : ∃ V, withB X b on = V := ⟨_, rfl⟩
    rw [hXe] at q hX L1 hc1
    rw [hV] at L1 hc1
    obtain ⟨W1, hW1⟩ : ∃ W1, (w.setCell ⟨r, a, none⟩ (.int .u64 (V : Int))).drew = W1 := ⟨_, rfl⟩
    rw [hW1] at L1 hc1
    have L2 := L1.drew
    have q2 := L2.cell (i := b) (by rw [hn1]; exact hbn)
    have c2 := L2.ptr.cell 0
    have f2 := L2.row.soft b
    have L3 := (L1.put b _ (with_fit hY (k := a) (by omega) on)).drew
    have hc := (hc1.trans (Chg.set (S := fun b => b = r) W1 r b (.int .u64 ((withB ((putM M a b on).getD b 0) a on : Nat) : Int)) rfl) (fun _ _ h => h)).drewN 1
    have H3 : Hid (Lk (W1.setCell ⟨r, b, none⟩ (.int .u64 ((withB ((putM M a b on).getD b 0) a on : Nat) : Int))).drew B g r (setM M a b on)) := Lib.hid L3
    have HC : Hid (Chg (fun b => b = r) w (W1.setCell ⟨r, b, none⟩ (.int .u64 ((withB ((putM M a b on).getD b 0) a on : Nat) : Int))).drew) := Lib.hid hc
    obtain ⟨Y, hYe⟩ : ∃ Y, (putM M a b on).getD b 0 = Y := ⟨_, rfl⟩
    obtain ⟨U, hU⟩ : ∃ U, withB Y a on = U := ⟨_, rfl⟩
    rw [hYe] at q2 hY H3 HC
    rw [hU] at H3 HC
    rw [hn1] at c2
    have ha' : (a : Int) < M.length := by omega
    have hb' : (b : Int) < M.length := by omega
    have s1 := shl_fit (k := a) (by omega)
    have s2 := shl_fit (k := b) (by omega)
    clear h L0 L1 L2 L3 hc1 hc hb b1 b2 hne hXe hYe
    rcases on with _ | _
    · have e1 := with_off hX (k := b) (by omega)
      have e2 := with_off hY (k := a) (by omega)
      rw [hV] at e1
      rw [hU] at e2
      go_enter Tryd.func14, Tryd.ntmps14
      go_wp2_with (go_at_call 22; refine hm.mono ?_; rintro e w' ⟨rfl, rfl⟩)
      go_still_tail 11, (by kernel_rfl)
      change wpList _ _ _ _ _ w'.drew
      go_wp2
      go_still_tail 11, (by kernel_rfl)
      change wpList _ _ _ _ _ W1.drew
      go_wp2
      go_ret
      exact .inr ⟨HB.out, rfl, H3.out, HC.out⟩
    · have e1 := with_on hX (k := b) (by omega)
      have e2 := with_on hY (k := a) (by omega)
      rw [hV] at e1
      rw [hU] at e2
      go_enter Tryd.func14, Tryd.ntmps14
      go_wp2_with (go_at_call 22; refine hm.mono ?_; rintro e w' ⟨rfl, rfl⟩)
      go_still_tail 11, (by kernel_rfl)
      change wpList _ _ _ _ _ w'.drew
      go_wp2
      go_still_tail 11, (by kernel_rfl)
      change wpList _ _ _ _ _ W1.drew
      go_wp2
      go_ret
      exact .inr ⟨HB.out, rfl, H3.out, HC.out⟩
end Go.Proofs.YtgmkmkheknibmaaDoor

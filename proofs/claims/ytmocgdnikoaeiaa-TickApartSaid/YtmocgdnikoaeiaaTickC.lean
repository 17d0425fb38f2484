/- The document's clock; what each law asks first. -/
import Derived.Test.YtmocgdnikoaeiaaTickB
namespace Go.Proofs.Ytmocgdnikoaeiaa
open Go.RowKit

/-- The document's clock at block g. -/
def RClk (w : World) (g : Nat) (d n : Int) : Prop := Holds w g 36 #[.int .i64 d, .int .i64 n]
def RStepped (g : Nat) (d n t : Int) (w : World) (e : Ending) (w' : World) : Prop := e = .returned (.int .i64 (goV d n t)) ∧ RClk w' g d (goN d n t) ∧ w.grownBy w' (some g)
theorem rgo_any (g : Nat) (d n t : Int) (w : World) (h : RClk w g d n) (h0 : 0 ≤ d) (h1 : d ≤ 10) (n0 : 0 ≤ n) (n1 : n ≤ 1125899906842624) :
    Calls Try.prog 13 #[.pointer (some ⟨g, 0, none⟩), .int .i64 t] w (RStepped g d n t w) := by
  have c0 := Holds.cell h 0
  have c1 := Holds.cell h 1
  have f1 := Holds.soft h 1
  cases hf : fitsB d t with
  | false =>
    have ev : goV d n t = 1 := by simp [goV, hf]
    have en : goN d n t = n := by simp [goN, hf]
    have EV := Lib.hid ev
    have EN := Lib.hid en
    have H := Lib.hid h
    by_cases h2 : t < 1000 - d
    · clear ev en h hf
      go_enter Try.func13, Try.ntmps13
      go_wp2
      go_ret
      refine ⟨ret_int EV.out.symm, ?_, grown_refl _ _⟩
      rw [EN.out]
      exact H.out
    · have h3 : 1000 + d < t := by have := fitsB_no hf; omega
      have h4 : decide (t < 1000 - d) = false := decide_eq_false h2
      clear ev en h hf
      go_enter Try.func13, Try.ntmps13
      go_wp2
      go_ret
      refine ⟨ret_int EV.out.symm, ?_, grown_refl _ _⟩
      rw [EN.out]
      exact H.out
  | true =>
    obtain ⟨t1, t2⟩ := fitsB_yes hf
    have h4 : decide (t < 1000 - d) = false := decide_eq_false (by omega)
    have H := Lib.hid h
    by_cases hle : n + t ≤ 1125899906842624
    · have ev : goV d n t = 0 := by simp [goV, hf, hle]
      have en : goN d n t = n + t := by simp [goN, hf, hle]
      have EV := Lib.hid ev
      have EN := Lib.hid en
      clear ev en h hf
      go_enter Try.func13, Try.ntmps13
      go_wp2
      go_ret
      refine ⟨ret_int EV.out.symm, ?_, grown_set _ _ _ _⟩
      rw [EN.out]
      exact H.out.put 1 _
    · have ev : goV d n t = 8 := by simp [goV, hf, hle]
      have en : goN d n t = n := by simp [goN, hf, hle]
      have EV := Lib.hid ev
      have EN := Lib.hid en
      clear ev en h hf
      go_enter Try.func13, Try.ntmps13
      go_wp2
      go_ret
      refine ⟨ret_int EV.out.symm, ?_, grown_refl _ _⟩
      rw [EN.out]
      exact H.out
theorem goN_bd {d n t : Int} (h0 : 0 ≤ d) (h1 : d ≤ 10) (n0 : 0 ≤ n) (n1 : n ≤ 1125899906842624) : 0 ≤ goN d n t ∧ goN d n t ≤ 1125899906842624 := by
  unfold goN
  split
  · rename_i h
    have := fitsB_yes h.1
    omega
  · omega
theorem alive_yes (w : World) : Calls Try.prog 6 #[] w fun e w' => e = .returned (.bool true) ∧ Below w.heap.size w w' := by
  have k1 : goV 3 4294967295 1000 = 0 := by decide
  have k2 : goN 3 4294967295 1000 = 4294968295 := by decide
  have k3 : fitsB 3 1004 = false := by decide
  have g1 := fun (g : Nat) (W : World) (h : Clk W g 3 4294967295) => go_any g 3 4294967295 1000 W h (by omega) (by omega) (by omega) (by omega)
  have g2 := fun (g : Nat) (W : World) (h : Clk W g 3 4294968295) => fits_any g 3 4294968295 1004 W h (by omega) (by omega)
  have g3 := fun (g : Nat) (W : World) (h : Clk W g 3 4294968295) => counter_any g 3 4294968295 W h
  rw [k3] at g2
  unfold Stepped at g1
  rw [k1, k2] at g1
  clear k1 k2 k3
  go_enter Try.func6, Try.ntmps6
  go_wp2_with (first
    | (go_at_call 7; refine (new_yes 3 _ (by omega) (by omega)).mono ?_; rintro e w1 ⟨rfl, hc1, hb1⟩)
    | (go_at_call 8; refine (boot_any _ 3 0 _ _ hc1 ⟨by omega, by omega⟩).mono ?_; rintro e w2 ⟨rfl, hc2, hg2⟩)
    | (go_at_call 9; refine (g1 _ _ hc2).mono ?_; rintro e w3 ⟨rfl, hc3, hg3⟩)
    | (go_at_call 12; refine (g3 _ _ hc3).mono ?_; rintro e w4 ⟨rfl, rfl⟩)
    | (go_at_call 11; refine (now_any _ _ _ _ hc3).mono ?_; rintro e w4 ⟨rfl, rfl⟩)
    | (go_at_call 10; refine (g2 _ _ hc3).mono ?_; rintro e w4 ⟨rfl, rfl⟩))
  go_ret
  refine ⟨rfl, ?_⟩
  have hs := hb1.size
  have h2 : Below w.heap.size w w2 := hb1.grown hg2 hs (fun k hk => by simp at hk; omega)
  exact h2.grown hg3 (Nat.le_trans hs hg2.size) (fun k hk => by simp at hk; omega)
end Go.Proofs.Ytmocgdnikoaeiaa

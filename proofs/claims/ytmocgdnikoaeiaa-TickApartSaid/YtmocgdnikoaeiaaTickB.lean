/- Package tick: a step of a clock, of the program's and of the document's. -/
import Derived.Test.YtmocgdnikoaeiaaTickA
namespace Go.Proofs.Ytmocgdnikoaeiaa
open Go.RowKit

theorem grown_refl (w : World) (row : Option Nat) : w.grownBy w row := ⟨rfl, rfl, rfl, Nat.le_refl _, fun _ _ _ => rfl⟩
theorem quiet_eq {P : Program} {f : FuncId} {args : Array Value} {w : World} {v : Value} {n : Nat}
    (h : Calls P f args (w.drewN n) fun e w' => e = .returned v ∧ w.drewN n = w') : Calls P f args (w.drewN n) fun e w' => e = .returned v ∧ ∃ m, w' = w.drewN m :=
  h.mono fun _ _ ⟨he, hw⟩ => ⟨he, n, hw.symm⟩
/-- What a step of so many ticks answers. -/
def goV (d n t : Int) : Int := if fitsB d t = true then (if n + t ≤ 1125899906842624 then 0 else 8) else 1
/-- What the time is behind it. -/
def goN (d n t : Int) : Int := if fitsB d t = true ∧ n + t ≤ 1125899906842624 then n + t else n
/-- A step was made, or none was. -/
def Stepped (g : Nat) (d n t : Int) (w : World) (e : Ending) (w' : World) : Prop := e = .returned (.int .i64 (goV d n t)) ∧ Clk w' g d (goN d n t) ∧ w.grownBy w' (some g)
theorem go_nil (t : Int) (w : World) :
    Calls Try.prog 9 #[.pointer none, .int .i64 t] w fun e w' => e = .returned (.int .i64 2) ∧ w = w' := by
  go_enter Try.func9, Try.ntmps9
  go_wp2
  go_ret
  exact ⟨rfl, rfl⟩
theorem ext_go (n t : Int) (h1 : 0 ≤ t) (h2 : t ≤ 2000) : extV n ((n % 4294967296 + t) % 4294967296) = n + t := by unfold extV; omega
theorem go_any (g : Nat) (d n t : Int) (w : World) (h : Clk w g d n) (h0 : 0 ≤ d) (h1 : d ≤ 10) (n0 : 0 ≤ n) (n1 : n ≤ 1125899906842624) :
    Calls Try.prog 9 #[.pointer (some ⟨g, 0, none⟩), .int .i64 t] w (Stepped g d n t w) := by
  cases hf : fitsB d t with
  | false =>
    have hfit := fits_any g d n t w h h0 h1
    have ev : goV d n t = 1 := by simp [goV, hf]
    have en : goN d n t = n := by simp [goN, hf]
    have EV := Lib.hid ev
    have EN := Lib.hid en
    have H := Lib.hid h
    rw [hf] at hfit
    clear ev en h hf
    go_enter Try.func9, Try.ntmps9
    go_wp2_with (go_at_call 10; refine hfit.mono ?_; rintro e w' ⟨rfl, rfl⟩)
    go_ret
    refine ⟨ret_int EV.out.symm, ?_, grown_refl _ _⟩
    rw [EN.out]
    exact H.out
  | true =>
    obtain ⟨t1, t2⟩ := fitsB_yes hf
    have hfit := fits_any g d n t w h h0 h1
    have hcnt := fun m => counter_any g d n (w.drewN m) (h.drewN m)
    have c1 := Holds.cell h 1
    have f1 := Holds.soft h 1
    have e1 := wrap_u32 t
    have e2 : t % 4294967296 = t := by omega
    rw [e2] at e1
    have e3 := wrap_u32 (n % 4294967296 + t)
    obtain ⟨R, hR⟩ : ∃ R, (n % 4294967296 + t) % 4294967296 = R := ⟨_, rfl⟩
    rw [hR] at e3
    have hx := ext_go n t (by omega) (by omega)
    rw [hR] at hx
    have HX := Lib.hid hx
    have H := Lib.hid h
    rw [hf] at hfit
    by_cases hle : n + t ≤ 1125899906842624
    · have ev : goV d n t = 0 := by simp [goV, hf, hle]
      have en : goN d n t = n + t := by simp [goN, hf, hle]
      have EV := Lib.hid ev
      have EN := Lib.hid en
      have hext := fun W => ext_yes n R W n0 n1 (by rw [hx]; exact hle)
      rw [hx] at hext
      clear ev en h hf hx e2 hR
      go_enter Try.func9, Try.ntmps9
      go_wp2_with (go_at_call 10; refine hfit.mono ?_; rintro e w' ⟨rfl, rfl⟩)
      go_quiet ((first | (go_at_call 12; exact quiet_eq (hcnt _)) | (go_at_call 14; exact quiet_eq (hext _))))
      go_wp2
      go_ret
      refine ⟨ret_int EV.out.symm, ?_, ?_⟩
      · rw [EN.out]
        exact (H.out.drewN _).put 1 _
      · exact grown_drewN (grown_set _ _ _ _) _
    · have ev : goV d n t = 8 := by simp [goV, hf, hle]
      have en : goN d n t = n := by simp [goN, hf, hle]
      have EV := Lib.hid ev
      have EN := Lib.hid en
      have hext := fun W => ext_no n R W n0 n1 (by rw [hx]; omega)
      clear ev en h hf hx e2 hR
      go_enter Try.func9, Try.ntmps9
      go_wp2_with (go_at_call 10; refine hfit.mono ?_; rintro e w' ⟨rfl, rfl⟩)
      go_quiet ((first | (go_at_call 12; exact quiet_eq (hcnt _)) | (go_at_call 14; exact quiet_eq (hext _))))
      go_wp2
      go_ret
      refine ⟨ret_int EV.out.symm, ?_, ?_⟩
      · rw [EN.out]
        exact H.out.drewN _
      · exact grown_drewN (grown_refl _ _) _
end Go.Proofs.Ytmocgdnikoaeiaa

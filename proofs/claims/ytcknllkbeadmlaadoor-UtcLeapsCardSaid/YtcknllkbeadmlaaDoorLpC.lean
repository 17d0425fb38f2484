/- Package leap: which leap may be the next one; the lines of start, of a leap, of end. -/
import Derived.Test.YtcknllkbeadmlaaDoorLpB
namespace Go.Proofs.YtcknllkbeadmlaaDoor
open Go.RowKit
set_option linter.unusedSimpArgs false
set_option linter.unusedVariables false

theorem takes_nil (st d : Int) : takesB st [] d = decide (st ≤ d) := rfl
theorem takes_snoc (st d : Int) (L : List (Int × Int)) (e : Int × Int) : takesB st (L ++ [e]) d = decide (e.1 < d) := by
  unfold takesB
  rw [List.getLast?_append]
  rfl
theorem takes_any (w : World) (B q : Nat) (T : TB) (d : Int) (h : Tl w B q T) (hn : T.lp.length ≤ 1000) :
    Calls Tryd.prog 50 #[.pointer (some ⟨q, 0, none⟩), .int .i64 d] w fun e w' => e = .returned (.bool (takesB T.st T.lp d)) ∧ ∃ n, w' = w.drewN n := by
  obtain ⟨hB, A, c, hH, hO⟩ := h
  have c0 := hH.cell 0
  have c3 := hH.cell 3
  obtain ⟨st, ah, en, lp⟩ := T
  dsimp only at c0 c3 hO hn ⊢
  have hpr := PRow.of_own hO
  clear hH
  rcases List.eq_nil_or_concat lp with rfl | ⟨M, e, hL⟩
  · rw [takes_nil]
    clear hO
    go_enter Tryd.func50, Tryd.ntmps50
    go_wp2
    go_ret
    exact ⟨rfl, 0, rfl⟩
  · rw [List.concat_eq_append] at hL
    obtain ⟨x, y⟩ := e
    have hlen : lp.length = M.length + 1 := by rw [hL]; simp
    obtain ⟨b, off, rfl, hb, d0, d1⟩ := hpr.at (i := M.length) (x := x) (y := y) (by rw [hL]; simp)
    rw [hL, takes_snoc]
    dsimp only
    have hle := hpr.cap_le
    obtain ⟨m, hm⟩ : ∃ m, M.length = m := ⟨_, rfl⟩
    rw [hm] at hlen d0 d1
    have hz : ¬ (lp.length : Int) = 0 := by omega
    have hz1 := beq_no hz
    have ew : IntKind.i64.wrap ((lp.length : Int) - 1) = (m : Int) := by rw [IntWalk.i64_in _ (by omega)]; omega
    have hlt : (m : Int) < (lp.length : Int) := by omega
    obtain ⟨N, hN⟩ : ∃ N, lp.length = N := ⟨_, rfl⟩
    simp only [hN] at *
    clear hO hpr hL hm hN hlen d1 hle hn
    go_enter Tryd.func50, Tryd.ntmps50
    go_upto_region 3 with (fail)
    go_quiet (fail)
    go_wp2
    go_ret
    exact ⟨rfl, _, rfl⟩

end Go.Proofs.YtcknllkbeadmlaaDoor

/- Package frame: can a word be? -/
import Derived.Test.YtgmeakcfiaopcaaGreatFlP
import Derived.Test.YtgmeakcfiaopcaaGreatBunW
import Derived.Deep.RegionLaw
import Derived.Deep.QuietTactic
import Derived.BigQuiet
namespace Go.Proofs.YtgmeakcfiaopcaaGreat
open Go.RowKit
set_option linter.unusedVariables false
set_option linter.unusedSimpArgs false

/-- Can a word be? -/
def wgoodB (a b h t : Int) : Bool := decide (0 ≤ a ∧ a ≤ 63) && decide (0 ≤ b ∧ b ≤ 63) && decide (0 ≤ h ∧ h ≤ 63) && timeB t
theorem wfold (a b c d h t : Int) (hc : F16 c) (hd : F16 d) : (((((((true && wokF 0 1) && wokF 1 a) && wokF 1 b) && wokF 3 c) && wokF 3 d) && wokF 2 h) && wokF 4 t) = wgoodB a b h t := by
  obtain ⟨c0, c1⟩ := hc
  obtain ⟨d0, d1⟩ := hd
  have e0 : wokF 0 1 = true := by decide
  have e3 : wokF 3 c = true := by
    unfold wokF
    rw [decide_eq_true c0, decide_eq_true (show c ≤ wmost 3 from (by show c ≤ 65535; omega))]
    rfl
  have e4 : wokF 3 d = true := by
    unfold wokF
    rw [decide_eq_true d0, decide_eq_true (show d ≤ wmost 3 from (by show d ≤ 65535; omega))]
    rfl
  rw [e0, e3, e4]
  have k1 : ∀ n, wokF 1 n = decide (0 ≤ n ∧ n ≤ 63) := fun n => by rw [Bool.decide_and]; rfl
  have k2 : ∀ n, wokF 2 n = decide (0 ≤ n ∧ n ≤ 63) := fun n => by rw [Bool.decide_and]; rfl
  have k4 : ∀ n, wokF 4 n = timeB n := fun n => by unfold timeB; rw [Bool.decide_and]; rfl
  rw [k1, k1, k2, k4]
  unfold wgoodB
  simp
set_option maxHeartbeats 2000000 in
theorem wgood_any (a b c d h t : Int) (w : World) (fa : Fits a) (fb : Fits b) (fc : F16 c) (fd : F16 d) (fh : Fits h) (ft : Fits t) :
    Calls Tryz.prog 65 #[.iface 63 (.agg #[.int .i64 a, .int .i64 b, .int .u16 c, .int .u16 d, .int .i64 h, .int .i64 t])] w fun e w' => e = .returned (.bool (wgoodB a b h t)) ∧ Below w.heap.size w w' := by
  have hp := picked_sync (wgoodP w w.heap.size) (wgoodP_right w w.heap.size) true _ _ _ _ _ _ _ a b c d h t a b c d h t 1 (w.alloc (.cells #[.bool true] 4)) (WOne.start w _ _)
    (wpick _ 0 1 (.inl rfl) ⟨by decide, by decide⟩) (wpick _ 1 a (.inr (.inl rfl)) fa) (wpick _ 1 b (.inr (.inl rfl)) fb) (wpick _ 3 c (.inr (.inr (.inr (.inl rfl)))) (fit16 fc)) fc fc (wpick _ 3 d (.inr (.inr (.inr (.inl rfl)))) (fit16 fd)) fd fd
    (wpick _ 2 h (.inr (.inr (.inl rfl))) fh) (wpick _ 4 t (.inr (.inr (.inr (.inr rfl)))) ft)
  rw [wfold a b c d h t fc fd] at hp
  obtain ⟨G, hG⟩ : ∃ G, wgoodB a b h t = G := ⟨_, rfl⟩
  rw [hG] at hp ⊢
  have hne : ∀ (u : TypeId) (v : Value) (W : World), (binOp .neq 152 (.iface u v) .nilIface).run Tryz.prog W = .ok (.bool true) W := fun u v W => by kernel_rfl
  clear hG fa fb fc fd fh ft
  cases G
  all_goals
    go_enter Tryz.func65, Tryz.ntmps65
    go_wp2_with (go_at_call 75; refine hp.mono ?_; rintro e w1 ⟨rfl, hi, hk⟩; have c0 := hi.holds.cell 0)
    go_ret
    exact ⟨rfl, hi.below⟩
end Go.Proofs.YtgmeakcfiaopcaaGreat

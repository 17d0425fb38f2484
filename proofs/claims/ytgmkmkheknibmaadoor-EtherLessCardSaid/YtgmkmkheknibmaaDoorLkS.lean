/- The links behind a script of Set. -/
import Derived.Test.YtgmkmkheknibmaaDoorLkD
import Derived.Test.YtgmkmkheknibmaaDoorLkP
namespace Go.Proofs.YtgmkmkheknibmaaDoor
open Go.RowKit
set_option linter.unusedVariables false

theorem Lk.base {w : World} {B B' g r : Nat} {M : List Nat} (h : Lk w B g r M) (hB : B' ≤ B) : Lk w B' g r M := ⟨h.ptr, h.row, Nat.le_trans hB h.oldg, Nat.le_trans hB h.oldr, h.pos, h.le, h.fit⟩
/-- The links, behind some calls of Set. -/
structure SRun (w : World) (n g r : Nat) (M : List Nat) (W : World) : Prop where
  len : M.length = n
  lk : Lk W w.heap.size g r M
  net : Net M
  tab : Tab W
  below : Below w.heap.size w W
section
variable {w : World} {n g r : Nat} {M : List Nat} {W W' : World}
theorem SRun.below' (h : SRun w n g r M W) (hb : Below W.heap.size W W') : SRun w n g r M W' := ⟨h.len, h.lk.below hb, h.net, h.tab.below hb h.tab.2, h.below.trans (hb.mono h.below.size)⟩
theorem SRun.alloc (h : SRun w n g r M W) (o : Obj) : SRun w n g r M (W.alloc o) := h.below' (below_alloc _ _)
theorem SRun.new {w1 w2 : World} (h1 : 1 ≤ n) (h2 : n ≤ 64) (hT : Tab w) (hb1 : Below w.heap.size w w1) (L : Lk w2 w1.heap.size g r (List.replicate n 0)) (hb2 : Below w1.heap.size w1 w2) : SRun w n g r (List.replicate n 0) w2 :=
  ⟨by simp, L.base hb1.size, Net.zero n, hT.below (hb1.trans (hb2.mono hb1.size)) hT.2, hb1.trans (hb2.mono hb1.size)⟩
theorem SRun.fit (h : SRun w n g r M W) : FitM M := h.lk.fitM
/-- Set, behind whatever was set. -/
theorem srun_set (h : SRun w n g r M W) (ht0 : 0 < w.heap.size) (i k : Int) (on : Bool) : Calls Tryd.prog 14 #[.pointer (some ⟨g, 0, none⟩), .int .i64 i, .int .i64 k, .bool on] W fun e w' =>
    e = .returned (.int .i64 (if mayB n i k then 0 else 1)) ∧ SRun w n g r (afterM M i k on) w' ∧ Chg (fun b => b = r) W w' :=
  (set_any W _ g r M h.lk i k on).mono fun e w' ⟨he, hl, hc⟩ => by
    have hr := h.lk.oldr
    refine ⟨by rw [he, h.len], ⟨by rw [after_len, h.len], hl, h.net.after h.fit i k on, (keepTab_chg hc (by omega)).2 h.tab, Below.chg h.below hc h.below.size (fun b e => by omega)⟩, hc⟩
theorem srun_may (h : SRun w n g r M W) (i k : Int) : Calls Tryd.prog 22 #[.pointer (some ⟨g, 0, none⟩), .int .i64 i, .int .i64 k] W fun e w' => e = .returned (.bool (mayB n i k)) ∧ w' = W := by
  have := may_lk W _ g r M h.lk i k
  rwa [h.len] at this
theorem hasB_nat {i k : Nat} (hi : i < M.length) (hk : k < M.length) : hasB M (i : Int) (k : Int) = adj M i k := by
  unfold hasB nearV adj
  rw [inB_nat, inB_nat]
  simp [hi, hk]
theorem srun_has (h : SRun w n g r M W) (i k : Nat) (hi : i < n) (hk : k < n) : Calls Tryd.prog 12 #[.pointer (some ⟨g, 0, none⟩), .int .i64 i, .int .i64 k] W fun e w' => e = .returned (.bool (adj M i k)) ∧ w' = W := by
  have := has_lk W _ g r M h.lk (i : Int) (k : Int)
  rwa [hasB_nat (by rw [h.len]; exact hi) (by rw [h.len]; exact hk)] at this
end
end Go.Proofs.YtgmkmkheknibmaaDoor

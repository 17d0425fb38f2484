/- The program's links and the document's, side by side. -/
import Derived.Test.YtgmkmkheknibmaaDoorLdB
namespace Go.Proofs.YtgmkmkheknibmaaDoor
open Go.RowKit
set_option linter.unusedVariables false

/-- Both, behind the same calls of Set. -/
structure BRun (w : World) (n g r gm : Nat) (M : List Nat) (W : World) : Prop where
  s : SRun w n g r M W
  d : Dk W gm n M
  g_lt : g < gm
  r_lt : r < gm
  low : w.heap.size ≤ gm
section
variable {w : World} {n g r gm : Nat} {M : List Nat} {W W' : World}
theorem BRun.below' (h : BRun w n g r gm M W) (hb : Below W.heap.size W W') : BRun w n g r gm M W' := ⟨h.s.below' hb, h.d.below hb, h.g_lt, h.r_lt, h.low⟩
theorem BRun.alloc (h : BRun w n g r gm M W) (o : Obj) : BRun w n g r gm M (W.alloc o) := h.below' (below_alloc _ _)
/-- The program's Set was called; the document's is still to be. -/
structure BHalf (w : World) (n g r gm : Nat) (M M' : List Nat) (W : World) : Prop where
  s : SRun w n g r M' W
  d : Dk W gm n M
  fit : FitM M
  len : M.length = n
  g_lt : g < gm
  r_lt : r < gm
  low : w.heap.size ≤ gm
theorem BHalf.below' {M' : List Nat} (h : BHalf w n g r gm M M' W) (hb : Below W.heap.size W W') : BHalf w n g r gm M M' W' := ⟨h.s.below' hb, h.d.below hb, h.fit, h.len, h.g_lt, h.r_lt, h.low⟩
theorem brun_set (h : BRun w n g r gm M W) (ht0 : 0 < w.heap.size) (i k : Int) (on : Bool) : Calls Tryd.prog 14 #[.pointer (some ⟨g, 0, none⟩), .int .i64 i, .int .i64 k, .bool on] W fun e w' =>
    e = .returned (.int .i64 (if mayB n i k then 0 else 1)) ∧ BHalf w n g r gm M (afterM M i k on) w' ∧ Chg (fun b => b = r) W w' :=
  (srun_set h.s ht0 i k on).mono fun e w' ⟨he, hs, hc⟩ => ⟨he, ⟨hs, h.d.chg hc (fun e => by have := h.r_lt; omega), h.s.fit, h.s.len, h.g_lt, h.r_lt, h.low⟩, hc⟩
theorem bhalf_set {i k : Int} {on : Bool} (h : BHalf w n g r gm M (afterM M i k on) W) (ht0 : 0 < w.heap.size) : Calls Tryd.prog 15 #[.pointer (some ⟨gm, 0, none⟩), .int .i64 i, .int .i64 k, .bool on] W fun e w' =>
    e = .returned (.int .i64 (if mayB n i k then 0 else 1)) ∧ BRun w n g r gm (afterM M i k on) w' ∧ Chg (fun b => b = gm) W w' :=
  (dset_any W gm n M h.d h.fit h.len i k on).mono fun e w' ⟨he, hd, hc⟩ => by
    have h1 := h.g_lt
    have h2 := h.r_lt
    have h3 := h.low
    exact ⟨he, ⟨⟨h.s.len, h.s.lk.chg hc (by omega) (by omega), h.s.net, (keepTab_chg hc (by omega)).2 h.s.tab, Below.chg h.s.below hc h.s.below.size (fun b e => by omega)⟩, hd, h1, h2, h3⟩, hc⟩
theorem BRun.new {C : Array Value} (hs : SRun w n g r (List.replicate n 0) W) (hC : C.size = 4097 ∧ C[0]? = some (.int .i64 (n : Int)) ∧ ∀ j, j < 4096 → C[j + 1]? = some (.bool false)) : BRun w n g r W.heap.size (List.replicate n 0) (W.alloc (.cells C 41)) :=
  ⟨hs.alloc _, Dk.new W n C hC, hs.lk.lt, hs.lk.rlt, hs.below.size⟩
end
end Go.Proofs.YtgmkmkheknibmaaDoor

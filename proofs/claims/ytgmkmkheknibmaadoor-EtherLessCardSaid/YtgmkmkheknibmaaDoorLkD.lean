/- Package links: New; what Each goes over. -/
import Derived.Test.YtgmkmkheknibmaaDoorLkC
import Derived.Test.YtgmkmkheknibmaaDoorLkM
import Derived.Deep.OwnRows
import Derived.Laws.OwnMore
import Derived.RangeFuncNested
import Derived.RangeFuncBound
import Derived.RangeFuncCalls
import Derived.RangeFuncLeaves
import Derived.RangeFuncWrites
import Derived.Shelf.Abstract
import Derived.OwnWalkIn
import Derived.TacticsInMore
import Derived.LoopNIn
import Derived.LoopIn
import Derived.LoopTactic
namespace Go.Proofs.YtgmkmkheknibmaaDoor
open Go.RowKit Go.Shelf
set_option linter.unusedVariables false
attribute [local go_sem] Oper.semAt_some

theorem u64_info : (Tryd.prog.info? 23).map (fun i => (i.zero, i.size, i.bytes)) = some (some (.int .u64 0), 1, 8) := by kernel_rfl
theorem int_info : (Tryd.prog.info? 3).map (fun i => (i.zero, i.size, i.bytes)) = some (some (.int .i64 0), 1, 8) := by kernel_rfl
theorem made_is (z : Value) (n : Nat) : madeCells #[z] n = (List.replicate n z).toArray := by
  rw [← toList_madeCells_one]
theorem make_sets (n : Nat) (hn : n ≤ 64) (w : World) : (Instr.makeSlice 24 (.int .i64 (n : Int)) (.int .i64 (n : Int))).run Tryd.prog w = .ok (.slice (some ⟨w.heap.size, 0, none⟩) n n) (w.alloc (.cells (setsOf (List.replicate n 0)) 23)) := by
  have := run_make_row' 24 23 (.int .u64 0) 8 Tryd.underlying24 u64_info rfl .i64 .i64 n (by omega) (by omega) w
  rw [this, made_is]
  simp [setsOf]
theorem new_bad (w : World) (n : Int) (h : n < 1 ∨ 64 < n) : Calls Tryd.prog 13 #[.int .i64 n] w fun e w' => e = .returned (.tuple #[.pointer none, .int .i64 1]) ∧ w' = w := by
  by_cases h1 : n < 1
  · go_enter Tryd.func13, Tryd.ntmps13
    go_wp2
    go_ret2
    exact ⟨rfl, rfl⟩
  · have h2 : 64 < n := by omega
    have d1 : decide (n < 1) = false := decide_eq_false h1
    have d2 : decide (64 < n) = true := decide_eq_true h2
    go_enter Tryd.func13, Tryd.ntmps13
    go_wp2
    go_ret2
    exact ⟨rfl, rfl⟩
theorem new_any (w : World) (n : Nat) (h1 : 1 ≤ n) (h2 : n ≤ 64) : Calls Tryd.prog 13 #[.int .i64 n] w fun e w' => e = .returned (.tuple #[.pointer (some ⟨w.heap.size + 1, 0, none⟩), .int .i64 0]) ∧ Lk w' w.heap.size (w.heap.size + 1) w.heap.size (List.replicate n 0) ∧ Below w.heap.size w w' ∧ w'.heap.size = w.heap.size + 2 := by
  have hmk := make_sets n h2
  have d1 : decide ((n : Int) < 1) = false := decide_eq_false (by omega)
  have d2 : decide (64 < (n : Int)) = false := decide_eq_false (by omega)
  go_enter Tryd.func13, Tryd.ntmps13
  go_wp2
  go_ret2
  refine ⟨by simp, ⟨?_, ?_, by omega, by omega, by simpa using h1, by simpa using h2, fun x hx => by simp at hx; omega⟩, (below_alloc _ _).alloc (by simp) _, by simp⟩
  · have := Holds.new (w.alloc (.cells (setsOf (List.replicate n 0)) 23)) 63 #[.slice (some ⟨w.heap.size, 0, none⟩) n n]
    simpa using this
  · exact (Holds.new w 23 (setsOf (List.replicate n 0))).alloc _

/-- Each: the set is boxed; the function value captures the box. -/
theorem each_any (w : World) (x : Nat) :
    Calls Tryd.prog 20 #[.int .u64 x] w fun e w' => e = .returned (.func (.func 23) #[] #[.pointer (some ⟨w.heap.size, 0, none⟩)]) ∧ w' = w.alloc (.cells #[.int .u64 x] 23) := by
  go_enter Tryd.func20, Tryd.ntmps20
  go_wp2
  go_ret
  exact ⟨rfl, rfl⟩

/-- The table stays. -/
def KeepTab (W W' : World) : Prop := W.heap.size ≤ W'.heap.size ∧ (Tab W → Tab W')
theorem keepTab_t {A B C : World} (h : KeepTab A B) (k : KeepTab B C) : KeepTab A C := ⟨Nat.le_trans h.1 k.1, fun t => k.2 (h.2 t)⟩
theorem keepTab_b (m : Nat) (W : World) (l : Nat) (o o' : Obj) (hl : m ≤ l) (h : W.heap[l]? = some o) (hc : o.isCells = false) (_ : o.isWalk = false) : KeepTab W (W.putObj l o') := by
  have hg := grownBy_putObj' W l o'
  refine ⟨hg.size, fun t => ⟨fun j hj => ?_, Nat.lt_of_lt_of_le t.2 hg.size⟩⟩
  refine (World.cell?_of_block (hg.block _ t.2 (fun e => ?_))).trans (t.1 j hj)
  cases e
  have := t.1 j hj
  unfold World.cell? at this
  rw [h] at this
  cases o <;> simp [Obj.isCells] at hc this
theorem keepTab_chg {S : Nat → Prop} {W W' : World} (h : Chg S W W') (hS : ¬ S 0) : KeepTab W W' :=
  ⟨h.size, fun t => ⟨fun j hj => (h.cell t.2 hS).trans (t.1 j hj), Nat.lt_of_lt_of_le t.2 h.size⟩⟩

theorem sub_one {x : Nat} (h0 : x ≠ 0) (hx : x < 18446744073709551616) : IntKind.u64.wrap ((x : Int) - 1) = ((x - 1 : Nat) : Int) := by
  rw [IntKind.wrap_u64]
  omega
/-- The numbers of a set. -/
abbrev Bit (x : Nat) := {i : Nat // i ∈ bitsOf x}
def nums {x : Nat} (pre : List (Bit x)) : List Nat := pre.map (·.1)
theorem nums_snoc {x : Nat} (pre : List (Bit x)) (i : Bit x) : nums (pre ++ [i]) = nums pre ++ [i.1] := by simp [nums]
set_option maxRecDepth 100000 in
set_option maxHeartbeats 2000000 in
theorem each1_stops (n : Nat) (hn : 1 ≤ n) (p x : Nat) (hx : x < 18446744073709551616) (w : World) (hT : Tab w) (hp : w.cell? ⟨p, 0, none⟩ = some (.int .u64 x)) :
    SeqStopsK Fence.wide n Tryd.prog 23 #[.pointer (some ⟨p, 0, none⟩)] (fun i : Bit x => #[Value.int .i64 (i.1 : Int)]) KeepTab (fun ys => nums ys = bitsOf x) (fun pre => nums pre <+: bitsOf x) (bitsOf x).length w := fun l J Jx W hW hJ hJx hY h0 => by
  have hpw : p < w.heap.size := block_lt hp
  have hT1 : Tab W := hT.below hW hT.2
  have hp1 : W.cell? ⟨p, 0, none⟩ = some (.int .u64 x) := (hW.cell (p := ⟨p, 0, none⟩) hpw).trans hp
  have H0 := Lib.hid h0
  have HY := Lib.hid hY
  have HJ := Lib.hid hJ
  have HT := Lib.hid hT1
  clear h0 hY hJ hT1 hp hW hT
  refine callsIn_of_wp Tryd.func23 rfl trivial ?_ rfl
  simp only [Tryd.ntmps23, List.size_toArray, List.length_cons, List.length_nil, Nat.reduceAdd, Nat.reduceSub, Array.replicate_succ, Array.replicate_zero, List.push_toArray, List.append_toArray, List.nil_append, List.cons_append]
  gi_wp2
  gi_loopw [3] (fun i wr => ∃ (pre : List (Bit x)) (R : Nat), R < 18446744073709551616 ∧ i = .int .u64 R ∧ nums pre ++ bitsOf R = bitsOf x ∧ J pre wr ∧ Tab wr) (fun i _ => (intOf i).toNat)
  case atStart => exact ⟨[], x, hx, rfl, rfl, H0.out, HT.out⟩
  case round =>
    obtain ⟨pre, R, hR, rfl, hpre, hJ1, hT1⟩ := hrel
    by_cases h0 : R = 0
    · subst h0
      rw [bits_zero, List.append_nil] at hpre
      have HJ1 := Lib.hid hJ1
      have HPr := Lib.hid hpre
      clear hJ1 hT1 hpre
      gi_wp2
      go_end0
      exact ⟨⟨_, rfl⟩, .inl ⟨_, HPr.out, HJ1.out⟩⟩
    · have hne : ((R : Int) != 0) = true := by simp; omega
      have htz := tz_any wr hT1 R hR h0
      have hstep := bits_step h0 hR
      have hcl := cut_lt h0
      have hs1 := sub_one h0 hR
      have hand := u64_and_nat R (R - 1) hR (by omega)
      obtain ⟨K, hK⟩ : ∃ K, Lib.ctz 64 R = K := ⟨_, rfl⟩
      obtain ⟨Q, hQ⟩ : ∃ Q, R &&& (R - 1) = Q := ⟨_, rfl⟩
      obtain ⟨P, hP⟩ : ∃ P : Int, ((R - 1 : Nat) : Int) = P := ⟨_, rfl⟩
      rw [hK] at htz hstep
      rw [hQ] at hstep hcl hand
      rw [hP] at hs1 hand
      rw [hstep] at hpre
      have hKx : K ∈ bitsOf x := by rw [← hpre]; simp
      have hpre2 : nums (pre ++ [(⟨K, hKx⟩ : Bit x)]) ++ bitsOf Q = bitsOf x := Eq.trans (by simp [nums]) hpre
      have hlen : pre.length < (bitsOf x).length := by have := congrArg List.length hpre; simp [nums] at this; omega
      have hpfx : nums (pre ++ [(⟨K, hKx⟩ : Bit x)]) <+: bitsOf x := ⟨_, hpre2⟩
      have HPr := Lib.hid hpre2
      have HPf := Lib.hid hpfx
      have HT2 := Lib.hid hT1
      obtain ⟨fn, tmps, assign, body, hy, hRR⟩ := HY.out pre ⟨K, hKx⟩ wr hJ1 hlen
      clear hK hQ hP hpre hpre2 hpfx hT1 hJ1 hstep h0 hlen
      gi_wp2_with (refine ⟨trivial, ?_⟩; gi_at_call 24; refine (callsIn_wide.2 htz).mono ?_; rintro e w' ⟨rfl, rfl⟩)
      refine hRR.mono ?_
      rintro e W3 (⟨rfl, hJ3, hk3⟩ | ⟨rfl, hJx3⟩)
      · have HJ3 := Lib.hid hJ3
        have HT3 := Lib.hid (hk3.2 HT2.out)
        clear hJ3 hk3
        gi_wp2
        go_roundw
        case rel => exact ⟨pre ++ [(⟨K, hKx⟩ : Bit x)], Q, by omega, rfl, HPr.out, HJ3.out, HT3.out⟩
        case measure => simp [intOf]; omega
      · have HJ3 := Lib.hid hJx3
        clear hJx3
        gi_wp2
        refine bodyPost_ret (results_none rfl _ _ _) rfl ?_
        exact ⟨⟨_, rfl⟩, .inr ⟨_, HPf.out, HJ3.out⟩⟩
end Go.Proofs.YtgmkmkheknibmaaDoor

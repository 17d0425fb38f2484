/- Package timer: what All goes over. -/
import Derived.RangeFuncNested
import Derived.RangeFuncBound
import Derived.RangeFuncCalls
import Derived.RangeFuncLeaves
import Derived.RangeFuncWrites
import Derived.Shelf.Abstract
import Derived.OwnWalkIn
import Derived.TacticsInMore
import Derived.LoopNIn
import Derived.LoopIn
import Derived.Test.YtfpjicmmnhcfcaaTmF
namespace Go.Proofs.Ytfpjicmmnhcfcaa
open Go.RowKit Go.Shelf
set_option linter.unusedVariables false
attribute [local go_sem] Oper.semAt_some

/-- Cells of blocks from n on lie as they lay. -/
def KeepNew (n : Nat) (W W' : World) : Prop := W.heap.size ≤ W'.heap.size ∧ ∀ k cs t fr, n ≤ k → W.heap[k]? = some (Obj.cells cs t fr) → W'.heap[k]? = W.heap[k]?
theorem keepNew_t {n : Nat} {A B C : World} (h : KeepNew n A B) (k : KeepNew n B C) : KeepNew n A C :=
  ⟨Nat.le_trans h.1 k.1, fun i cs t fr hi hc => (k.2 i cs t fr hi ((h.2 i cs t fr hi hc).trans hc)).trans (h.2 i cs t fr hi hc)⟩
theorem keepNew_b {n m : Nat} (hn : n ≤ m) (W : World) (l : Nat) (o o' : Obj) (hl : m ≤ l) (h : W.heap[l]? = some o) (hc : o.isCells = false) (_ : o.isWalk = false) : KeepNew n W (W.putObj l o') := by
  have hg := grownBy_putObj' W l o'
  refine ⟨hg.size, fun k cs t fr hk hcs => hg.block k (Array.getElem?_eq_some_iff.1 hcs).1 (fun e => ?_)⟩
  cases e
  rw [h] at hcs
  simp only [Option.some.injEq] at hcs
  subst hcs
  cases hc
theorem Ents.keepNew {n : Nat} {W W' : World} {B : Nat} {A : Option Addr} {m c : Nat} {L : List (Int × Int)} (h : Ents W B A m c L) (hk : KeepNew n W W') (hB : n ≤ B) : Ents W' B A m c L := by
  refine ⟨h.1, ?_⟩
  rcases h.2 with h2 | ⟨g, cap, cur, e, hb, hg, r⟩
  · exact .inl h2
  · exact .inr ⟨g, cap, cur, e, hb, (hk.2 g _ _ _ (Nat.le_trans hB hb) hg).trans hg, r⟩
theorem below_grown {w w' : World} (hb : Below w.heap.size w w') : w.grownBy w' none := ⟨hb.os, hb.tape, hb.output, hb.size, fun k hk _ => hb.block k hk⟩

set_option maxHeartbeats 1000000 in
/-- All: the row's pointer is boxed; the function value captures the box. -/
theorem all_any (w : World) (p : Option Addr) :
    Calls Try.prog 24 #[.pointer p] w fun e w' => e = .returned (.func (.func 29) #[] #[.pointer (some ⟨w.heap.size, 0, none⟩)]) ∧ w' = w.alloc (.cells #[.pointer p] 27) := by
  go_enter Try.func24, Try.ntmps24
  go_wp2
  go_ret
  exact ⟨rfl, rfl⟩

set_option maxRecDepth 100000 in
set_option maxHeartbeats 2000000 in
theorem all1_stops (n : Nat) (hn : 1 ≤ n) (p g B n₀ : Nat) (v : Value) (L : List (Int × Int)) (w : World) (h : Tm w B g v L) (hp : w.cell? ⟨p, 0, none⟩ = some (.pointer (some ⟨g, 0, none⟩))) (hn₀ : n₀ ≤ w.heap.size) :
    SeqStopsK Fence.wide n Try.prog 29 #[.pointer (some ⟨p, 0, none⟩)] (fun x : Int × Int => #[Value.int .i64 x.1, Value.int .i64 x.2]) (KeepNew n₀) (fun ys => ys = L) (fun pre => pre <+: L) L.length w := fun l J Jx W hW hJ hJx hY h0 => by
  have hpw : p < w.heap.size := block_lt hp
  have hT := h.below hW
  have hp1 : W.cell? ⟨p, 0, none⟩ = some (.pointer (some ⟨g, 0, none⟩)) := (hW.cell (p := ⟨p, 0, none⟩) hpw).trans hp
  have hsz := hW.size
  obtain ⟨_, hgood, A, c, rfl, hh, he⟩ := hT
  have h16 := hgood.2.1
  have c0 := hh.cell 0
  have hcl := clone_any W B A L.length c L he (by omega)
  have H0 := Lib.hid h0
  have HY := Lib.hid hY
  have HJ := Lib.hid hJ
  clear h hp hW hh he hgood h0 hY hJ
  refine callsIn_of_wp Try.func29 rfl trivial ?_ rfl
  simp only [Try.ntmps29, List.size_toArray, List.length_cons, List.length_nil, Nat.reduceAdd, Nat.reduceSub, Array.replicate_succ, Array.replicate_zero, List.push_toArray, List.append_toArray, List.nil_append, List.cons_append]
  gi_wp2_with (refine ⟨trivial, ?_⟩; gi_at_call 30; refine (callsIn_wide.2 hcl).mono ?_; rintro e W1 ⟨A1, c1, rfl, he1, hb1⟩)
  have hj1 : J [] W1 := HJ.out _ _ _ none H0.out (below_grown hb1) (fun r e => by cases e)
  have HE1 := Lib.hid he1
  have HJ1 := Lib.hid hj1
  have hbW : n₀ ≤ W.heap.size := Nat.le_trans hn₀ hsz
  have hn1 := he1.cap
  unfold maxLen at hn1
  obtain ⟨hn1, hn2⟩ := hn1
  clear he1 hj1 hb1 H0
  gi_loopw [13] (fun i wr => ∃ k : Nat, k ≤ L.length ∧ i = .int .i64 k ∧ J (L.take k) wr ∧ Ents wr W.heap.size A1 L.length c1 L) (fun i _ => L.length - (intOf i).toNat)
  case atStart => exact ⟨0, Nat.zero_le _, rfl, by rw [List.take_zero]; exact HJ1.out, HE1.out⟩
  case round =>
    obtain ⟨k, hk, rfl, hJs, hes⟩ := hrel
    by_cases hlt : k < L.length
    · obtain ⟨q, rfl, hBq, hqw, q0, q1⟩ := hes.at hlt
      obtain ⟨x, hx⟩ : ∃ x, L.getD k (0, 0) = x := ⟨_, rfl⟩
      rw [hx] at q0 q1
      have hnext : L.take (k + 1) = L.take k ++ [x] := by
        rw [List.take_succ_eq_append_getElem hlt, ← hx]
        simp [List.getD, hlt]
      have hJ2 := HJ.out _ _ _ none hJs (World.grownBy_alloc wr (.cells #[.int .i64 x.1, .int .i64 x.2] 50) none) (fun r e => by cases e)
      have HE2 : Hid (Ents (wr.alloc (.cells #[.int .i64 x.1, .int .i64 x.2] 50)) W.heap.size (some ⟨q, 0, none⟩) L.length c1 L) := Lib.hid (hes.below (below_alloc wr _))
      have HX := Lib.hid hnext
      obtain ⟨fn, tmps, assign, body, hy, hR⟩ := HY.out (L.take k) x _ hJ2 (by rw [List.length_take]; omega)
      clear hx hnext hJs hes hJ2
      gi_wp2
      refine hR.mono ?_
      rintro e W3 (⟨rfl, hJ3, hk3⟩ | ⟨rfl, hJx3⟩)
      · have HJ3 := Lib.hid hJ3
        have HE3 := Lib.hid (Ents.keepNew HE2.out hk3 hbW)
        clear hJ3 hk3
        gi_wp2
        go_roundw
        case rel => exact ⟨k + 1, by omega, by go_num, by rw [HX.out]; exact HJ3.out, HE3.out⟩
        case measure => simp [intOf]; omega
      · have HJ3 := Lib.hid hJx3
        clear hJx3
        gi_wp2
        refine bodyPost_ret (results_none rfl _ _ _) rfl ?_
        exact ⟨⟨_, rfl⟩, .inr ⟨_, List.take_prefix (k + 1) L, by rw [HX.out]; exact HJ3.out⟩⟩
    · have hkl : k = L.length := by omega
      have hall : L.take k = L := List.take_of_length_le (by omega)
      rw [hall] at hJs
      have HJs := Lib.hid hJs
      clear hkl hall hJs hes
      gi_wp2
      go_end0
      exact ⟨⟨_, rfl⟩, .inl ⟨_, rfl, HJs.out⟩⟩
end Go.Proofs.Ytfpjicmmnhcfcaa

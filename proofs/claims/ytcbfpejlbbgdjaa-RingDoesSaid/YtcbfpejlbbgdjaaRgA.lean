/- Package ring: what All goes over. -/
import Derived.RangeFuncNested
import Derived.RangeFuncBound
import Derived.RangeFuncCalls
import Derived.RangeFuncLeaves
import Derived.RangeFuncWrites
import Derived.Shelf.Abstract
import Derived.OwnWalkIn
import Derived.TacticsInMore
import Derived.LoopNIn
import Derived.LoopIn
import Derived.Test.YtcbfpejlbbgdjaaRgL
namespace Go.Proofs.Ytcbfpejlbbgdjaa.RI
open Go.RowKit Go.Shelf
set_option linter.unusedVariables false
attribute [local go_sem] Oper.semAt_some

/-- Cells of blocks from n on lie as they lay. -/
def KeepNew (n : Nat) (W W' : World) : Prop := W.heap.size ≤ W'.heap.size ∧ ∀ k cs t fr, n ≤ k → W.heap[k]? = some (Obj.cells cs t fr) → W'.heap[k]? = W.heap[k]?
theorem keepNew_t {n : Nat} {A B C : World} (h : KeepNew n A B) (k : KeepNew n B C) : KeepNew n A C :=
  ⟨Nat.le_trans h.1 k.1, fun i cs t fr hi hc => (k.2 i cs t fr hi ((h.2 i cs t fr hi hc).trans hc)).trans (h.2 i cs t fr hi hc)⟩
theorem keepNew_b {n m : Nat} (hn : n ≤ m) (W : World) (l : Nat) (o o' : Obj) (hl : m ≤ l) (h : W.heap[l]? = some o) (hc : o.isCells = false) (_ : o.isWalk = false) : KeepNew n W (W.putObj l o') := by
  have hg := grownBy_putObj' W l o'
  refine ⟨hg.size, fun k cs t fr hk hcs => hg.block k (Array.getElem?_eq_some_iff.1 hcs).1 (fun e => ?_)⟩
  cases e
  rw [h] at hcs
  simp only [Option.some.injEq] at hcs
  subst hcs
  cases hc
theorem own_keepNew {n : Nat} {W W' : World} {B : Nat} {e : TypeId} {v : Value} {m k : Nat} {xs : List Value} (h : W.ownsRow B e k v m xs) (hk : KeepNew n W W') (hB : n ≤ B) : W'.ownsRow B e k v m xs := by
  refine ⟨h.1, ?_⟩
  rcases h.2 with h2 | ⟨g, cap, cur, e, hb, hg, r⟩
  · exact .inl h2
  · exact .inr ⟨g, cap, cur, e, hb, (hk.2 g _ _ _ (Nat.le_trans hB hb) hg).trans hg, r⟩
theorem below_grown {w w' : World} (hb : Below w.heap.size w w') : w.grownBy w' none := ⟨hb.os, hb.tape, hb.output, hb.size, fun k hk _ => hb.block k hk⟩

/-- All: the row's pointer is boxed; the function value captures the box. -/
theorem all_any (w : World) (p : Option Addr) :
    Calls Try.prog 21 #[.pointer p] w fun e w' => e = .returned (.func (.func 24) #[] #[.pointer (some ⟨w.heap.size, 0, none⟩)]) ∧ w' = w.alloc (.cells #[.pointer p] 24) := by
  go_enter Try.func21, Try.ntmps21
  go_wp2
  go_ret
  exact ⟨rfl, rfl⟩

set_option maxRecDepth 100000 in
set_option maxHeartbeats 2000000 in
/-- What goes over a list of its own. -/
theorem all1_over (n : Nat) (hn : 1 ≤ n) (p n₀ : Nat) (q : Option Addr) (L : List Int) (w : World) (h64 : L.length ≤ 64)
    (hl : ∀ W, Below w.heap.size w W → Calls Try.prog 25 #[.pointer q] W (GaveRow 3 .i64 W L.length L))
    (hp : w.cell? ⟨p, 0, none⟩ = some (.pointer q)) (hn₀ : n₀ ≤ w.heap.size) :
    SeqStopsK Fence.wide n Try.prog 24 #[.pointer (some ⟨p, 0, none⟩)] (fun x : Int => #[Value.int .i64 x]) (KeepNew n₀) (fun ys => ys = L) (fun pre => pre <+: L) L.length w := fun l J Jx W hW hJ hJx hY h0 => by
  have hpw : p < w.heap.size := block_lt hp
  have hp1 : W.cell? ⟨p, 0, none⟩ = some (.pointer q) := (hW.cell (p := ⟨p, 0, none⟩) hpw).trans hp
  have hsz := hW.size
  have hcl := hl W hW
  have H0 := Lib.hid h0
  have HY := Lib.hid hY
  have HJ := Lib.hid hJ
  clear hp hW h0 hY hJ hl
  refine callsIn_of_wp Try.func24 rfl trivial ?_ rfl
  simp only [Try.ntmps24, List.size_toArray, List.length_cons, List.length_nil, Nat.reduceAdd, Nat.reduceSub, Array.replicate_succ, Array.replicate_zero, List.push_toArray, List.append_toArray, List.nil_append, List.cons_append]
  gi_wp2_with (refine ⟨trivial, ?_⟩; gi_at_call 25; refine (callsIn_wide.2 hcl).mono ?_; rintro e W1 ⟨A1, c1, rfl, he1, hb1⟩)
  have hj1 : J [] W1 := HJ.out _ _ _ none H0.out (below_grown hb1) (fun r e => by cases e)
  have HE1 := Lib.hid he1
  have HJ1 := Lib.hid hj1
  have hbW : n₀ ≤ W.heap.size := Nat.le_trans hn₀ hsz
  clear he1 hj1 hb1 H0
  gi_loopw [8] (fun i wr => ∃ k : Nat, k ≤ L.length ∧ i = .int .i64 k ∧ J (L.take k) wr ∧ wr.ownsRow W.heap.size 3 1 (.slice A1 L.length c1) L.length (L.map (.int .i64))) (fun i _ => L.length - (intOf i).toNat)
  case atStart => exact ⟨0, Nat.zero_le _, rfl, by rw [List.take_zero]; exact HJ1.out, HE1.out⟩
  case round =>
    obtain ⟨k, hk, rfl, hJs, hes⟩ := hrel
    by_cases hlt : k < L.length
    · obtain ⟨q, rfl, hBq, hqw⟩ := own_form hes (by omega)
      have q0 := own_cell hes hlt
      obtain ⟨x, hx⟩ : ∃ x, L[k]?.getD 0 = x := ⟨_, rfl⟩
      rw [hx] at q0
      have hnext : L.take (k + 1) = L.take k ++ [x] := by
        rw [List.take_succ_eq_append_getElem hlt, ← hx]
        simp [hlt]
      have HX := Lib.hid hnext
      obtain ⟨fn, tmps, assign, body, hy, hR⟩ := HY.out (L.take k) x _ hJs (by rw [List.length_take]; omega)
      have HES := Lib.hid hes
      clear hx hnext hJs hes
      gi_wp2
      refine hR.mono ?_
      rintro e W3 (⟨rfl, hJ3, hk3⟩ | ⟨rfl, hJx3⟩)
      · have HJ3 := Lib.hid hJ3
        have HE3 := Lib.hid (own_keepNew HES.out hk3 hbW)
        clear hJ3 hk3
        gi_wp2
        go_roundw
        case rel => exact ⟨k + 1, by omega, by go_num, by rw [HX.out]; exact HJ3.out, HE3.out⟩
        case measure => simp [intOf]; omega
      · have HJ3 := Lib.hid hJx3
        clear hJx3
        gi_wp2
        refine bodyPost_ret (results_none rfl _ _ _) rfl ?_
        exact ⟨⟨_, rfl⟩, .inr ⟨_, List.take_prefix (k + 1) L, by rw [HX.out]; exact HJ3.out⟩⟩
    · have hkl : k = L.length := by omega
      have hall : L.take k = L := List.take_of_length_le (by omega)
      rw [hall] at hJs
      have HJs := Lib.hid hJs
      clear hkl hall hJs hes
      gi_wp2
      go_end0
      exact ⟨⟨_, rfl⟩, .inl ⟨_, rfl, HJs.out⟩⟩
end Go.Proofs.Ytcbfpejlbbgdjaa.RI

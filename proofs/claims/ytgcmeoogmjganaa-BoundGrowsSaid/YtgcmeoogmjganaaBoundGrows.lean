/-
  No bound falls as a term grows: for all terms, nets, hops and timeouts the law answers true; without conditions.
  The walk is the prover's own; the frame of the row's step follows the kit's template.
-/
import Derived.Test.YtgcmeoogmjganaaRows
import Derived.Test.YtgcmeoogmjganaaLawKit
import Derived.Test.YtgcmeoogmjganaaStructArg
import Derived.Test.YtgcmeoogmjganaaBdH
import Derived.IntWalk
import Derived.LoopTactic
import Derived.Deep.CutBlock
import Derived.Deep.CutRange
import Derived.BigQuiet
namespace Go.Proofs.Ytgcmeoogmjganaa.boundGrows
open Go.ChangeShapes Go.WideShapes Go.ChangeAt Go.RowKit Go.ChangeMaps Go.WideElems
set_option linter.unusedVariables false

theorem split4 {ns : List Int} (h : ns.length = 4) : ∃ s1_0 s1_1 s1_2 s1_3 : Int, ns = [s1_0, s1_1, s1_2, s1_3] := by
  match ns, h with
  | [y0, y1, y2, y3], _ => exact ⟨_, _, _, _, rfl⟩
theorem split5 {ns : List Int} (h : ns.length = 5) : ∃ s4_0 s4_1 s4_2 s4_3 s4_4 : Int, ns = [s4_0, s4_1, s4_2, s4_3, s4_4] := by
  match ns, h with
  | [y0, y1, y2, y3, y4], _ => exact ⟨_, _, _, _, _, rfl⟩
theorem own : ownKnob Try.prog.godebug = none := by kernel_rfl
/-- Rounded up: the least number that times s isn't below n. -/
theorem up_le {n s q : Int} (s0 : 0 < s) (h : n ≤ q * s) : (n + s - 1) / s ≤ q := by
  have : (n + s - 1) / s < q + 1 := Int.ediv_lt_of_lt_mul s0 (by rw [Int.add_mul, Int.one_mul]; omega)
  omega
theorem up_ge {n s : Int} (s0 : 0 < s) : n ≤ (n + s - 1) / s * s := by
  have e := Int.mul_ediv_add_emod (n + s - 1) s
  have m1 := Int.emod_lt_of_pos (n + s - 1) s0
  rw [Int.mul_comm] at e
  omega
section
variable {d j t r d' j' t' r' : Int}
theorem ticks_mono {n n' : Int} (g : bdGood d j t r = true) (g' : bdGood d' j' t' r' = true) (hd : d ≤ d') (hr : r ≤ r') (n0 : 0 ≤ n) (hn : n ≤ n') (n1 : n' ≤ 1073741824) : bdTicks d j t r n ≤ bdTicks d' j' t' r' n' := by
  have c := bdGood_iff.1 g
  have c' := bdGood_iff.1 g'
  have h1 := c.d0
  have h2 := c.r0
  have e : bdTicks d j t r n = n * r * (1000 + d) := by unfold bdTicks; rw [if_pos ⟨g, bdIn_iff.2 ⟨n0, by omega⟩⟩]
  have e' : bdTicks d' j' t' r' n' = n' * r' * (1000 + d') := by unfold bdTicks; rw [if_pos ⟨g', bdIn_iff.2 ⟨by omega, n1⟩⟩]
  rw [e, e']
  exact Int.mul_le_mul (Int.mul_le_mul hn hr (by omega) (by omega)) (by omega) (by omega) (Int.mul_nonneg (by omega) (by omega))
theorem lag_mono {n n' : Int} (g : bdGood d j t r = true) (g' : bdGood d' j' t' r' = true) (hd : d ≤ d') (hr : r ≤ r') (n0 : 0 ≤ n) (hn : n ≤ n') (n1 : n' ≤ 1073741824) : bdLag d j t r n ≤ bdLag d' j' t' r' n' := by
  have m := ticks_mono g g' hd hr n0 hn n1
  have c := bdGood_iff.1 g
  have c' := bdGood_iff.1 g'
  have h1 := c.d0
  have h2 := c'.d1
  have tb := bdTicks_bd d j t r n
  have e : bdLag d j t r n = (2 * d * bdTicks d j t r n + (1000 - d) - 1) / (1000 - d) := by unfold bdLag; rw [if_pos g]
  have e' : bdLag d' j' t' r' n' = (2 * d' * bdTicks d' j' t' r' n' + (1000 - d') - 1) / (1000 - d') := by unfold bdLag; rw [if_pos g']
  have q := bdLag_bd d' j' t' r' n'
  have h3 : 2 * d * bdTicks d j t r n ≤ 2 * d' * bdTicks d' j' t' r' n' := Int.mul_le_mul (by omega) m tb.1 (by omega)
  have h4 := up_ge (n := 2 * d' * bdTicks d' j' t' r' n') (s := 1000 - d') (by omega)
  rw [← e'] at h4
  have h5 : bdLag d' j' t' r' n' * (1000 - d') ≤ bdLag d' j' t' r' n' * (1000 - d) := Int.mul_le_mul_of_nonneg_left (by omega) q.1
  rw [e]
  exact up_le (by omega) (by omega)
theorem hop_mono (g : bdGood d j t r = true) (g' : bdGood d' j' t' r' = true) (hd : d ≤ d') (hj : j ≤ j') (ht : t ≤ t') (hr : r ≤ r') : bdHop d j t r ≤ bdHop d' j' t' r' := by
  have c := bdGood_iff.1 g
  have c' := bdGood_iff.1 g'
  have h1 := c.t0
  have h2 := c'.t1
  have m := lag_mono (n := t + 1) (n' := t' + 1) g g' hd hr (by omega) (by omega) (by omega)
  unfold bdHop
  rw [if_pos g, if_pos g']
  omega
theorem rest_mono (g : bdGood d j t r = true) (g' : bdGood d' j' t' r' = true) (hd : d ≤ d') (hj : j ≤ j') (ht : t ≤ t') (hr : r ≤ r') : bdRest d j t r ≤ bdRest d' j' t' r' := by
  have c := bdGood_iff.1 g
  have c' := bdGood_iff.1 g'
  have h1 := c.t0
  have h2 := c'.t1
  have m := lag_mono (n := 8 * (t + 1)) (n' := 8 * (t' + 1)) g g' hd hr (by omega) (by omega) (by omega)
  unfold bdRest
  rw [if_pos g, if_pos g']
  omega
theorem error_mono (g : bdGood d j t r = true) (g' : bdGood d' j' t' r' = true) (hd : d ≤ d') (hj : j ≤ j') (ht : t ≤ t') (hr : r ≤ r') (h : Int) : bdError d j t r h ≤ bdError d' j' t' r' h := by
  have m := hop_mono g g' hd hj ht hr
  have n := rest_mono g g' hd hj ht hr
  unfold bdError
  split
  · rename_i i
    exact Int.mul_le_mul_of_nonneg_left (by omega) (bdIn_iff.1 i).1
  · omega
theorem error_next {h : Int} (h0 : 0 ≤ h) (h1 : h < 63) : bdError d j t r h ≤ bdError d j t r (h + 1) := by
  have a := bdHop_bd d j t r
  have b := bdRest_bd d j t r
  unfold bdError
  rw [if_pos (bdIn_iff.2 ⟨h0, by omega⟩), if_pos (bdIn_iff.2 ⟨by omega, by omega⟩)]
  exact Int.mul_le_mul_of_nonneg_right (by omega) (by omega)
end
section
variable {n w m i k n' w' m' i' k' : Int}
theorem behind_mono (g : ntGood n w m i k = true) (g' : ntGood n' w' m' i' k' = true) (hw : w ≤ w') (hm : m ≤ m') : ntBehind n w m i k ≤ ntBehind n' w' m' i' k' := by
  have c := ntGood_iff.1 g
  have h1 := c.w0
  have h2 := c.m0
  unfold ntBehind
  rw [if_pos g, if_pos g']
  exact Int.mul_le_mul hw (by omega) (by omega) (by omega)
theorem patience_mono (g : ntGood n w m i k = true) (g' : ntGood n' w' m' i' k' = true) (hw : w ≤ w') (hm : m ≤ m') : ntPatience n w m i k ≤ ntPatience n' w' m' i' k' := by
  have := behind_mono g g' hw hm
  unfold ntPatience
  rw [if_pos g, if_pos g']
  omega
theorem settle_mono {t : Int} (g : ntGood n w m i k = true) (g' : ntGood n' w' m' i' k' = true) (hn : n ≤ n') (hw : w ≤ w') (hm : m ≤ m') (hi : i ≤ i') (hk : k ≤ k') (h : 0 < ntSettle n' w' m' i' k' t) : ntSettle n w m i k t ≤ ntSettle n' w' m' i' k' t := by
  have p := patience_mono g g' hw hm
  have b := behind_mono g g' hw hm
  have bb := ntBehind_bd n w m i k
  have c := ntGood_iff.1 g
  have h1 := c.n0
  have h2 := c.w0
  have h3 := c.i0
  have h4 := c.k0
  by_cases q : bdIn t (ntPatience n' w' m' i' k') 1000 = true
  · have q1 := bdIn_iff.1 q
    have e0 : ntPatience n w m i k = ntBehind n w m i k + 4 := by unfold ntPatience; rw [if_pos g]
    have e : ntSettle n w m i k t = (n + 1) * (t + 2) + w * (3 * (ntBehind n w m i k + 2) + i + k * (ntBehind n w m i k + 2)) + 4 := by unfold ntSettle; rw [if_pos ⟨g, bdIn_iff.2 ⟨by omega, q1.2⟩⟩]
    have e' : ntSettle n' w' m' i' k' t = (n' + 1) * (t + 2) + w' * (3 * (ntBehind n' w' m' i' k' + 2) + i' + k' * (ntBehind n' w' m' i' k' + 2)) + 4 := by unfold ntSettle; rw [if_pos ⟨g', q⟩]
    rw [e, e']
    have a1 : (n + 1) * (t + 2) ≤ (n' + 1) * (t + 2) := Int.mul_le_mul_of_nonneg_right (by omega) (by omega)
    have a0 : 0 ≤ k * (ntBehind n w m i k + 2) := Int.mul_nonneg (by omega) (by omega)
    have a2 : k * (ntBehind n w m i k + 2) ≤ k' * (ntBehind n' w' m' i' k' + 2) := Int.mul_le_mul hk (by omega) (by omega) (by omega)
    have a3 : w * (3 * (ntBehind n w m i k + 2) + i + k * (ntBehind n w m i k + 2)) ≤ w' * (3 * (ntBehind n' w' m' i' k' + 2) + i' + k' * (ntBehind n' w' m' i' k' + 2)) := Int.mul_le_mul hw (by omega) (by omega) (by omega)
    omega
  · exfalso
    unfold ntSettle at h
    rw [if_neg (fun x => q x.2)] at h
    omega
end
/-- Four structs that were handed in, boxed one behind the other. -/
structure Four (w : World) (tT tN : TypeId) (ct cu cn cm : Array Value) (W : World) : Prop where
  h0 : Holds W w.heap.size tT ct
  h1 : Holds W (w.heap.size + 1) tT cu
  h2 : Holds W (w.heap.size + 1 + 1) tN cn
  h3 : Holds W (w.heap.size + 1 + 1 + 1) tN cm
  below : Below w.heap.size w W
section
variable {w W W' : World} {tT tN : TypeId} {ct cu cn cm : Array Value}
theorem Four.next (h : Four w tT tN ct cu cn cm W) (hb : Below W.heap.size W W') : Four w tT tN ct cu cn cm W' :=
  ⟨h.h0.below hb h.h0.lt, h.h1.below hb h.h1.lt, h.h2.below hb h.h2.lt, h.h3.below hb h.h3.lt, h.below.trans (hb.mono h.below.size)⟩
theorem Four.drew (h : Four w tT tN ct cu cn cm W) : Four w tT tN ct cu cn cm W.drew := h.next (Below.refl _ _).drew
theorem four_start (w : World) (tT tN : TypeId) (ct cu cn cm : Array Value) : Four w tT tN ct cu cn cm ((((w.alloc (.cells ct tT)).alloc (.cells cu tT)).alloc (.cells cn tN)).alloc (.cells cm tN)) := by
  have a0 := Holds.new w tT ct
  have a1 := Holds.new (w.alloc (.cells ct tT)) tT cu
  have a2 := Holds.new ((w.alloc (.cells ct tT)).alloc (.cells cu tT)) tN cn
  have a3 := Holds.new (((w.alloc (.cells ct tT)).alloc (.cells cu tT)).alloc (.cells cn tN)) tN cm
  have b1 := below_alloc (w.alloc (.cells ct tT)) (.cells cu tT)
  have b2 := below_alloc ((w.alloc (.cells ct tT)).alloc (.cells cu tT)) (.cells cn tN)
  have b3 := below_alloc (((w.alloc (.cells ct tT)).alloc (.cells cu tT)).alloc (.cells cn tN)) (.cells cm tN)
  have z0 := below_alloc w (.cells ct tT)
  have z1 := z0.trans (b1.mono z0.size)
  have z2 := z1.trans (b2.mono z1.size)
  have z3 := z2.trans (b3.mono z2.size)
  have c0 := ((a0.below b1 a0.lt).below b2 (a0.below b1 a0.lt).lt)
  have d0 := c0.below b3 c0.lt
  have c1 := a1.below b2 a1.lt
  have d1 := c1.below b3 c1.lt
  have d2 := a2.below b3 a2.lt
  simp only [size_alloc] at d1 d2 a3
  exact ⟨d0, d1, d2, a3, z3⟩
end
theorem Four.cells {w W : World} {tT tN : TypeId} {a0 a1 a2 a3 b0 b1 b2 b3 c0 c1 c2 c3 c4 d0 d1 d2 d3 d4 : Value} (h : Four w tT tN #[a0, a1, a2, a3] #[b0, b1, b2, b3] #[c0, c1, c2, c3, c4] #[d0, d1, d2, d3, d4] W) : W.cell? ⟨w.heap.size, 0, none⟩ = some a0 ∧ W.cell? ⟨w.heap.size, 1, none⟩ = some a1 ∧ W.cell? ⟨w.heap.size, 2, none⟩ = some a2 ∧ W.cell? ⟨w.heap.size, 3, none⟩ = some a3 ∧ W.cell? ⟨w.heap.size + 1, 0, none⟩ = some b0 ∧ W.cell? ⟨w.heap.size + 1, 1, none⟩ = some b1 ∧ W.cell? ⟨w.heap.size + 1, 2, none⟩ = some b2 ∧ W.cell? ⟨w.heap.size + 1, 3, none⟩ = some b3 ∧ W.cell? ⟨w.heap.size + 1 + 1, 0, none⟩ = some c0 ∧ W.cell? ⟨w.heap.size + 1 + 1, 1, none⟩ = some c1 ∧ W.cell? ⟨w.heap.size + 1 + 1, 2, none⟩ = some c2 ∧ W.cell? ⟨w.heap.size + 1 + 1, 3, none⟩ = some c3 ∧ W.cell? ⟨w.heap.size + 1 + 1, 4, none⟩ = some c4 ∧ W.cell? ⟨w.heap.size + 1 + 1 + 1, 0, none⟩ = some d0 ∧ W.cell? ⟨w.heap.size + 1 + 1 + 1, 1, none⟩ = some d1 ∧ W.cell? ⟨w.heap.size + 1 + 1 + 1, 2, none⟩ = some d2 ∧ W.cell? ⟨w.heap.size + 1 + 1 + 1, 3, none⟩ = some d3 ∧ W.cell? ⟨w.heap.size + 1 + 1 + 1, 4, none⟩ = some d4 ∧ Four w tT tN #[a0, a1, a2, a3] #[b0, b1, b2, b3] #[c0, c1, c2, c3, c4] #[d0, d1, d2, d3, d4] W :=
  ⟨h.h0.cell 0, h.h0.cell 1, h.h0.cell 2, h.h0.cell 3, h.h1.cell 0, h.h1.cell 1, h.h1.cell 2, h.h1.cell 3, h.h2.cell 0, h.h2.cell 1, h.h2.cell 2, h.h2.cell 3, h.h2.cell 4, h.h3.cell 0, h.h3.cell 1, h.h3.cell 2, h.h3.cell 3, h.h3.cell 4, h⟩
set_option linter.unusedSimpArgs false in
set_option maxHeartbeats 8000000 in
set_option maxRecDepth 100000 in
theorem walk (s0_0 s0_1 s0_2 s0_3 : Int) (s1_0 s1_1 s1_2 s1_3 : Int) (a2 : Int) (s3_0 s3_1 s3_2 s3_3 s3_4 : Int) (s4_0 s4_1 s4_2 s4_3 s4_4 : Int) (a5 : Int) (w : World) (w0_0 : (Lit.int .i64 s0_0).wf = true) (w0_1 : (Lit.int .i64 s0_1).wf = true) (w0_2 : (Lit.int .i64 s0_2).wf = true) (w0_3 : (Lit.int .i64 s0_3).wf = true) (w1_0 : (Lit.int .i64 s1_0).wf = true) (w1_1 : (Lit.int .i64 s1_1).wf = true) (w1_2 : (Lit.int .i64 s1_2).wf = true) (w1_3 : (Lit.int .i64 s1_3).wf = true) (w2 : (Lit.int .i64 a2).wf = true) (w3_0 : (Lit.int .i64 s3_0).wf = true) (w3_1 : (Lit.int .i64 s3_1).wf = true) (w3_2 : (Lit.int .i64 s3_2).wf = true) (w3_3 : (Lit.int .i64 s3_3).wf = true) (w3_4 : (Lit.int .i64 s3_4).wf = true) (w4_0 : (Lit.int .i64 s4_0).wf = true) (w4_1 : (Lit.int .i64 s4_1).wf = true) (w4_2 : (Lit.int .i64 s4_2).wf = true) (w4_3 : (Lit.int .i64 s4_3).wf = true) (w4_4 : (Lit.int .i64 s4_4).wf = true) (w5 : (Lit.int .i64 a5).wf = true) :
    Calls Try.prog 6 #[.agg #[.int .i64 s0_0, .int .i64 s0_1, .int .i64 s0_2, .int .i64 s0_3], .agg #[.int .i64 s1_0, .int .i64 s1_1, .int .i64 s1_2, .int .i64 s1_3], .int .i64 a2, .agg #[.int .i64 s3_0, .int .i64 s3_1, .int .i64 s3_2, .int .i64 s3_3, .int .i64 s3_4], .agg #[.int .i64 s4_0, .int .i64 s4_1, .int .i64 s4_2, .int .i64 s4_3, .int .i64 s4_4], .int .i64 a5] w fun e w' => e = .returned (.bool true) ∧ Below w.heap.size w w' := by
  have HF := Lib.hid (four_start w 23 40 #[.int .i64 s0_0, .int .i64 s0_1, .int .i64 s0_2, .int .i64 s0_3] #[.int .i64 s1_0, .int .i64 s1_1, .int .i64 s1_2, .int .i64 s1_3] #[.int .i64 s3_0, .int .i64 s3_1, .int .i64 s3_2, .int .i64 s3_3, .int .i64 s3_4] #[.int .i64 s4_0, .int .i64 s4_1, .int .i64 s4_2, .int .i64 s4_3, .int .i64 s4_4])
  go_enter Try.func6, Try.ntmps6
  go_upto_region 3 with (first
    | (go_at_call 9; (with_reducible refine (alive_yes _).mono ?_); rintro e wx ⟨rfl, hb⟩; replace HF := Lib.hid (HF.out.next hb); clear hb; obtain ⟨x0, x1, x2, x3, x4, x5, x6, x7, x8, x9, x10, x11, x12, x13, x14, x15, x16, x17, _⟩ := HF.out.cells))
  go_cut [48] from 15 to 48 (fun c wx => ∃ b : Bool, c = .bool b ∧ (b = true → (bdGood s0_0 s0_1 s0_2 s0_3 = true ∧ bdGood s1_0 s1_1 s1_2 s1_3 = true ∧ s0_0 ≤ s1_0 ∧ s0_1 ≤ s1_1 ∧ s0_2 ≤ s1_2 ∧ s0_3 ≤ s1_3)) ∧ Four w 23 40 #[.int .i64 s0_0, .int .i64 s0_1, .int .i64 s0_2, .int .i64 s0_3] #[.int .i64 s1_0, .int .i64 s1_1, .int .i64 s1_2, .int .i64 s1_3] #[.int .i64 s3_0, .int .i64 s3_1, .int .i64 s3_2, .int .i64 s3_3, .int .i64 s3_4] #[.int .i64 s4_0, .int .i64 s4_1, .int .i64 s4_2, .int .i64 s4_3, .int .i64 s4_4] wx)
  case first =>
    have hk1 := fun W => bgood_any s0_0 s0_1 s0_2 s0_3 W
    have hk2 := fun W => bgood_any s1_0 s1_1 s1_2 s1_3 W
    cases k1 : bdGood s0_0 s0_1 s0_2 s0_3
    · simp only [k1] at hk1
      go_wp2_with (first
        | (go_at_call 11; (with_reducible refine (hk1 _).mono ?_); rintro e wx ⟨rfl, hb⟩; replace HF := Lib.hid (HF.out.next hb); clear hb; obtain ⟨x0, x1, x2, x3, x4, x5, x6, x7, x8, x9, x10, x11, x12, x13, x14, x15, x16, x17, _⟩ := HF.out.cells)
        | (go_at_call 11; (with_reducible refine (hk2 _).mono ?_); rintro e wx ⟨rfl, hb⟩; replace HF := Lib.hid (HF.out.next hb); clear hb; obtain ⟨x0, x1, x2, x3, x4, x5, x6, x7, x8, x9, x10, x11, x12, x13, x14, x15, x16, x17, _⟩ := HF.out.cells))
      go_meet
      case rel => exact ⟨false, rfl, (fun h => by cases h), HF.out⟩
    simp only [k1] at hk1
    cases k2 : bdGood s1_0 s1_1 s1_2 s1_3
    · simp only [k2] at hk2
      go_wp2_with (first
        | (go_at_call 11; (with_reducible refine (hk1 _).mono ?_); rintro e wx ⟨rfl, hb⟩; replace HF := Lib.hid (HF.out.next hb); clear hb; obtain ⟨x0, x1, x2, x3, x4, x5, x6, x7, x8, x9, x10, x11, x12, x13, x14, x15, x16, x17, _⟩ := HF.out.cells)
        | (go_at_call 11; (with_reducible refine (hk2 _).mono ?_); rintro e wx ⟨rfl, hb⟩; replace HF := Lib.hid (HF.out.next hb); clear hb; obtain ⟨x0, x1, x2, x3, x4, x5, x6, x7, x8, x9, x10, x11, x12, x13, x14, x15, x16, x17, _⟩ := HF.out.cells))
      go_meet
      case rel => exact ⟨false, rfl, (fun h => by cases h), HF.out⟩
    simp only [k2] at hk2
    by_cases q0 : s0_0 ≤ s1_0
    rotate_left
    · have p0 : decide (s0_0 ≤ s1_0) = false := decide_eq_false q0
      go_wp2_with (first
        | (go_at_call 11; (with_reducible refine (hk1 _).mono ?_); rintro e wx ⟨rfl, hb⟩; replace HF := Lib.hid (HF.out.next hb); clear hb; obtain ⟨x0, x1, x2, x3, x4, x5, x6, x7, x8, x9, x10, x11, x12, x13, x14, x15, x16, x17, _⟩ := HF.out.cells)
        | (go_at_call 11; (with_reducible refine (hk2 _).mono ?_); rintro e wx ⟨rfl, hb⟩; replace HF := Lib.hid (HF.out.next hb); clear hb; obtain ⟨x0, x1, x2, x3, x4, x5, x6, x7, x8, x9, x10, x11, x12, x13, x14, x15, x16, x17, _⟩ := HF.out.cells))
      go_meet
      case rel => exact ⟨false, rfl, (fun h => by cases h), HF.out⟩
    have p0 : decide (s0_0 ≤ s1_0) = true := decide_eq_true q0
    by_cases q1 : s0_1 ≤ s1_1
    rotate_left
    · have p1 : decide (s0_1 ≤ s1_1) = false := decide_eq_false q1
      go_wp2_with (first
        | (go_at_call 11; (with_reducible refine (hk1 _).mono ?_); rintro e wx ⟨rfl, hb⟩; replace HF := Lib.hid (HF.out.next hb); clear hb; obtain ⟨x0, x1, x2, x3, x4, x5, x6, x7, x8, x9, x10, x11, x12, x13, x14, x15, x16, x17, _⟩ := HF.out.cells)
        | (go_at_call 11; (with_reducible refine (hk2 _).mono ?_); rintro e wx ⟨rfl, hb⟩; replace HF := Lib.hid (HF.out.next hb); clear hb; obtain ⟨x0, x1, x2, x3, x4, x5, x6, x7, x8, x9, x10, x11, x12, x13, x14, x15, x16, x17, _⟩ := HF.out.cells))
      go_meet
      case rel => exact ⟨false, rfl, (fun h => by cases h), HF.out⟩
    have p1 : decide (s0_1 ≤ s1_1) = true := decide_eq_true q1
    by_cases q2 : s0_2 ≤ s1_2
    rotate_left
    · have p2 : decide (s0_2 ≤ s1_2) = false := decide_eq_false q2
      go_wp2_with (first
        | (go_at_call 11; (with_reducible refine (hk1 _).mono ?_); rintro e wx ⟨rfl, hb⟩; replace HF := Lib.hid (HF.out.next hb); clear hb; obtain ⟨x0, x1, x2, x3, x4, x5, x6, x7, x8, x9, x10, x11, x12, x13, x14, x15, x16, x17, _⟩ := HF.out.cells)
        | (go_at_call 11; (with_reducible refine (hk2 _).mono ?_); rintro e wx ⟨rfl, hb⟩; replace HF := Lib.hid (HF.out.next hb); clear hb; obtain ⟨x0, x1, x2, x3, x4, x5, x6, x7, x8, x9, x10, x11, x12, x13, x14, x15, x16, x17, _⟩ := HF.out.cells))
      go_meet
      case rel => exact ⟨false, rfl, (fun h => by cases h), HF.out⟩
    have p2 : decide (s0_2 ≤ s1_2) = true := decide_eq_true q2
    by_cases q3 : s0_3 ≤ s1_3
    rotate_left
    · have p3 : decide (s0_3 ≤ s1_3) = false := decide_eq_false q3
      go_wp2_with (first
        | (go_at_call 11; (with_reducible refine (hk1 _).mono ?_); rintro e wx ⟨rfl, hb⟩; replace HF := Lib.hid (HF.out.next hb); clear hb; obtain ⟨x0, x1, x2, x3, x4, x5, x6, x7, x8, x9, x10, x11, x12, x13, x14, x15, x16, x17, _⟩ := HF.out.cells)
        | (go_at_call 11; (with_reducible refine (hk2 _).mono ?_); rintro e wx ⟨rfl, hb⟩; replace HF := Lib.hid (HF.out.next hb); clear hb; obtain ⟨x0, x1, x2, x3, x4, x5, x6, x7, x8, x9, x10, x11, x12, x13, x14, x15, x16, x17, _⟩ := HF.out.cells))
      go_meet
      case rel => exact ⟨false, rfl, (fun h => by cases h), HF.out⟩
    have p3 : decide (s0_3 ≤ s1_3) = true := decide_eq_true q3
    go_wp2_with (first
      | (go_at_call 11; (with_reducible refine (hk1 _).mono ?_); rintro e wx ⟨rfl, hb⟩; replace HF := Lib.hid (HF.out.next hb); clear hb; obtain ⟨x0, x1, x2, x3, x4, x5, x6, x7, x8, x9, x10, x11, x12, x13, x14, x15, x16, x17, _⟩ := HF.out.cells)
      | (go_at_call 11; (with_reducible refine (hk2 _).mono ?_); rintro e wx ⟨rfl, hb⟩; replace HF := Lib.hid (HF.out.next hb); clear hb; obtain ⟨x0, x1, x2, x3, x4, x5, x6, x7, x8, x9, x10, x11, x12, x13, x14, x15, x16, x17, _⟩ := HF.out.cells))
    go_meet
    case rel => exact ⟨true, rfl, (fun _ => ⟨k1, k2, q0, q1, q2, q3⟩), HF.out⟩
  case rest =>
    obtain ⟨b, rfl, hP, hF⟩ := hcut
    clear HF x0 x1 x2 x3 x4 x5 x6 x7 x8 x9 x10 x11 x12 x13 x14 x15 x16 x17
    have HF := Lib.hid hF
    obtain ⟨x0, x1, x2, x3, x4, x5, x6, x7, x8, x9, x10, x11, x12, x13, x14, x15, x16, x17, _⟩ := hF.cells
    clear hF
    have HP := Lib.hid hP
    clear hP
    go_upto_if 48 with (fail)
    go_cut [87] from 49 to 87 (fun _ wx => Four w 23 40 #[.int .i64 s0_0, .int .i64 s0_1, .int .i64 s0_2, .int .i64 s0_3] #[.int .i64 s1_0, .int .i64 s1_1, .int .i64 s1_2, .int .i64 s1_3] #[.int .i64 s3_0, .int .i64 s3_1, .int .i64 s3_2, .int .i64 s3_3, .int .i64 s3_4] #[.int .i64 s4_0, .int .i64 s4_1, .int .i64 s4_2, .int .i64 s4_3, .int .i64 s4_4] wx)
    case first =>
      cases b
      · go_wp2
        go_meet
        case rel => exact HF.out
      obtain ⟨g, g', h1, h2, h3, h4⟩ := HP.out rfl
      have m1 := hop_mono g g' h1 h2 h3 h4
      have m2 := rest_mono g g' h1 h2 h3 h4
      have m3 := error_mono g g' h1 h2 h3 h4 a2
      have m4 := error_next (d := s0_0) (j := s0_1) (t := s0_2) (r := s0_3) (h := a2)
      clear HP g g' h1 h2 h3 h4
      have hh := fun W => hop_any s0_0 s0_1 s0_2 s0_3 W
      have hh' := fun W => hop_any s1_0 s1_1 s1_2 s1_3 W
      have hr := fun W => brest_any s0_0 s0_1 s0_2 s0_3 W
      have hr' := fun W => brest_any s1_0 s1_1 s1_2 s1_3 W
      have he := fun W => berror_any s0_0 s0_1 s0_2 s0_3 a2 W
      have he' := fun W => berror_any s1_0 s1_1 s1_2 s1_3 a2 W
      have hn := fun W => berror_any s0_0 s0_1 s0_2 s0_3 (a2 + 1) W
      obtain ⟨H, e0⟩ : ∃ H, bdHop s0_0 s0_1 s0_2 s0_3 = H := ⟨_, rfl⟩
      simp only [e0] at hh m1
      clear e0
      obtain ⟨H', e0⟩ : ∃ H', bdHop s1_0 s1_1 s1_2 s1_3 = H' := ⟨_, rfl⟩
      simp only [e0] at hh' m1
      clear e0
      obtain ⟨R, e0⟩ : ∃ R, bdRest s0_0 s0_1 s0_2 s0_3 = R := ⟨_, rfl⟩
      simp only [e0] at hr m2
      clear e0
      obtain ⟨R', e0⟩ : ∃ R', bdRest s1_0 s1_1 s1_2 s1_3 = R' := ⟨_, rfl⟩
      simp only [e0] at hr' m2
      clear e0
      obtain ⟨E, e0⟩ : ∃ E, bdError s0_0 s0_1 s0_2 s0_3 a2 = E := ⟨_, rfl⟩
      simp only [e0] at he m3 m4
      clear e0
      obtain ⟨E', e0⟩ : ∃ E', bdError s1_0 s1_1 s1_2 s1_3 a2 = E' := ⟨_, rfl⟩
      simp only [e0] at he' m3
      clear e0
      obtain ⟨G, e0⟩ : ∃ G, bdError s0_0 s0_1 s0_2 s0_3 (a2 + 1) = G := ⟨_, rfl⟩
      simp only [e0] at hn m4
      clear e0
      have d1 : decide (H' < H) = false := decide_eq_false (by omega)
      have d2 : decide (R' < R) = false := decide_eq_false (by omega)
      have d3 : decide (E' < E) = false := decide_eq_false (by omega)
      by_cases a0 : 0 ≤ a2
      rotate_left
      · have p0 : decide (0 ≤ a2) = false := decide_eq_false a0
        clear m4
        go_upto_region 4 with (fail)
        refine region_turns (fun (w' : World) => w'.cell? ⟨w.heap.size, 0, none⟩ = some (.int .i64 s0_0) ∧ w'.cell? ⟨w.heap.size, 1, none⟩ = some (.int .i64 s0_1) ∧ w'.cell? ⟨w.heap.size, 2, none⟩ = some (.int .i64 s0_2) ∧ w'.cell? ⟨w.heap.size, 3, none⟩ = some (.int .i64 s0_3) ∧ w'.cell? ⟨w.heap.size + 1, 0, none⟩ = some (.int .i64 s1_0) ∧ w'.cell? ⟨w.heap.size + 1, 1, none⟩ = some (.int .i64 s1_1) ∧ w'.cell? ⟨w.heap.size + 1, 2, none⟩ = some (.int .i64 s1_2) ∧ w'.cell? ⟨w.heap.size + 1, 3, none⟩ = some (.int .i64 s1_3) ∧ w'.cell? ⟨w.heap.size + 1 + 1, 0, none⟩ = some (.int .i64 s3_0) ∧ w'.cell? ⟨w.heap.size + 1 + 1, 1, none⟩ = some (.int .i64 s3_1) ∧ w'.cell? ⟨w.heap.size + 1 + 1, 2, none⟩ = some (.int .i64 s3_2) ∧ w'.cell? ⟨w.heap.size + 1 + 1, 3, none⟩ = some (.int .i64 s3_3) ∧ w'.cell? ⟨w.heap.size + 1 + 1, 4, none⟩ = some (.int .i64 s3_4) ∧ w'.cell? ⟨w.heap.size + 1 + 1 + 1, 0, none⟩ = some (.int .i64 s4_0) ∧ w'.cell? ⟨w.heap.size + 1 + 1 + 1, 1, none⟩ = some (.int .i64 s4_1) ∧ w'.cell? ⟨w.heap.size + 1 + 1 + 1, 2, none⟩ = some (.int .i64 s4_2) ∧ w'.cell? ⟨w.heap.size + 1 + 1 + 1, 3, none⟩ = some (.int .i64 s4_3) ∧ w'.cell? ⟨w.heap.size + 1 + 1 + 1, 4, none⟩ = some (.int .i64 s4_4) ∧ Four w 23 40 #[.int .i64 s0_0, .int .i64 s0_1, .int .i64 s0_2, .int .i64 s0_3] #[.int .i64 s1_0, .int .i64 s1_1, .int .i64 s1_2, .int .i64 s1_3] #[.int .i64 s3_0, .int .i64 s3_1, .int .i64 s3_2, .int .i64 s3_3, .int .i64 s3_4] #[.int .i64 s4_0, .int .i64 s4_1, .int .i64 s4_2, .int .i64 s4_3, .int .i64 s4_4] w') (fun j => decide (39 ≤ j)) (by kernel_rfl) (HF.out.drew.cells) (fun hS => ?_)
        refine Turns.take hS 0 _ rfl (by kernel_rfl) (by kernel_rfl) (by kernel_rfl) (by kernel_rfl) (fun _ _ _ h => h) (by rfl) (fun w' hS' => by (try dsimp only at hS'); go_split_ands; go_simp; (try with_reducible rfl)) ?_
        simp only [Act.put, List.getElem_toArray, List.getElem_cons_succ, List.getElem_cons_zero, List.setIfInBounds_toArray, List.set_cons_zero, List.set_cons_succ]
        refine Turns.take hS 2 _ rfl (by kernel_rfl) (by kernel_rfl) (by kernel_rfl) (by kernel_rfl) (fun _ _ _ h => h) (by rfl) (fun w' hS' => by (try dsimp only at hS'); go_split_ands; go_simp; (try with_reducible rfl)) ?_
        simp only [Act.put, List.getElem_toArray, List.getElem_cons_succ, List.getElem_cons_zero, List.setIfInBounds_toArray, List.set_cons_zero, List.set_cons_succ]
        refine Turns.next 1 rfl (by kernel_rfl) (by rfl) (fun K hK => ?_)
        go_simp
        go_at_call 17
        refine (hh _).mono ?_
        rintro e wn1 ⟨rfl, hb⟩
        replace HF := Lib.hid (hS.2.2.2.2.2.2.2.2.2.2.2.2.2.2.2.2.2.2.next hb)
        clear hb
        refine hK.out _ _ (show (fun (w' : World) => w'.cell? ⟨w.heap.size, 0, none⟩ = some (.int .i64 s0_0) ∧ w'.cell? ⟨w.heap.size, 1, none⟩ = some (.int .i64 s0_1) ∧ w'.cell? ⟨w.heap.size, 2, none⟩ = some (.int .i64 s0_2) ∧ w'.cell? ⟨w.heap.size, 3, none⟩ = some (.int .i64 s0_3) ∧ w'.cell? ⟨w.heap.size + 1, 0, none⟩ = some (.int .i64 s1_0) ∧ w'.cell? ⟨w.heap.size + 1, 1, none⟩ = some (.int .i64 s1_1) ∧ w'.cell? ⟨w.heap.size + 1, 2, none⟩ = some (.int .i64 s1_2) ∧ w'.cell? ⟨w.heap.size + 1, 3, none⟩ = some (.int .i64 s1_3) ∧ w'.cell? ⟨w.heap.size + 1 + 1, 0, none⟩ = some (.int .i64 s3_0) ∧ w'.cell? ⟨w.heap.size + 1 + 1, 1, none⟩ = some (.int .i64 s3_1) ∧ w'.cell? ⟨w.heap.size + 1 + 1, 2, none⟩ = some (.int .i64 s3_2) ∧ w'.cell? ⟨w.heap.size + 1 + 1, 3, none⟩ = some (.int .i64 s3_3) ∧ w'.cell? ⟨w.heap.size + 1 + 1, 4, none⟩ = some (.int .i64 s3_4) ∧ w'.cell? ⟨w.heap.size + 1 + 1 + 1, 0, none⟩ = some (.int .i64 s4_0) ∧ w'.cell? ⟨w.heap.size + 1 + 1 + 1, 1, none⟩ = some (.int .i64 s4_1) ∧ w'.cell? ⟨w.heap.size + 1 + 1 + 1, 2, none⟩ = some (.int .i64 s4_2) ∧ w'.cell? ⟨w.heap.size + 1 + 1 + 1, 3, none⟩ = some (.int .i64 s4_3) ∧ w'.cell? ⟨w.heap.size + 1 + 1 + 1, 4, none⟩ = some (.int .i64 s4_4) ∧ Four w 23 40 #[.int .i64 s0_0, .int .i64 s0_1, .int .i64 s0_2, .int .i64 s0_3] #[.int .i64 s1_0, .int .i64 s1_1, .int .i64 s1_2, .int .i64 s1_3] #[.int .i64 s3_0, .int .i64 s3_1, .int .i64 s3_2, .int .i64 s3_3, .int .i64 s3_4] #[.int .i64 s4_0, .int .i64 s4_1, .int .i64 s4_2, .int .i64 s4_3, .int .i64 s4_4] w') _ from HF.out.cells) ?_
        clear hK K hS
        have hS := (show (fun (w' : World) => w'.cell? ⟨w.heap.size, 0, none⟩ = some (.int .i64 s0_0) ∧ w'.cell? ⟨w.heap.size, 1, none⟩ = some (.int .i64 s0_1) ∧ w'.cell? ⟨w.heap.size, 2, none⟩ = some (.int .i64 s0_2) ∧ w'.cell? ⟨w.heap.size, 3, none⟩ = some (.int .i64 s0_3) ∧ w'.cell? ⟨w.heap.size + 1, 0, none⟩ = some (.int .i64 s1_0) ∧ w'.cell? ⟨w.heap.size + 1, 1, none⟩ = some (.int .i64 s1_1) ∧ w'.cell? ⟨w.heap.size + 1, 2, none⟩ = some (.int .i64 s1_2) ∧ w'.cell? ⟨w.heap.size + 1, 3, none⟩ = some (.int .i64 s1_3) ∧ w'.cell? ⟨w.heap.size + 1 + 1, 0, none⟩ = some (.int .i64 s3_0) ∧ w'.cell? ⟨w.heap.size + 1 + 1, 1, none⟩ = some (.int .i64 s3_1) ∧ w'.cell? ⟨w.heap.size + 1 + 1, 2, none⟩ = some (.int .i64 s3_2) ∧ w'.cell? ⟨w.heap.size + 1 + 1, 3, none⟩ = some (.int .i64 s3_3) ∧ w'.cell? ⟨w.heap.size + 1 + 1, 4, none⟩ = some (.int .i64 s3_4) ∧ w'.cell? ⟨w.heap.size + 1 + 1 + 1, 0, none⟩ = some (.int .i64 s4_0) ∧ w'.cell? ⟨w.heap.size + 1 + 1 + 1, 1, none⟩ = some (.int .i64 s4_1) ∧ w'.cell? ⟨w.heap.size + 1 + 1 + 1, 2, none⟩ = some (.int .i64 s4_2) ∧ w'.cell? ⟨w.heap.size + 1 + 1 + 1, 3, none⟩ = some (.int .i64 s4_3) ∧ w'.cell? ⟨w.heap.size + 1 + 1 + 1, 4, none⟩ = some (.int .i64 s4_4) ∧ Four w 23 40 #[.int .i64 s0_0, .int .i64 s0_1, .int .i64 s0_2, .int .i64 s0_3] #[.int .i64 s1_0, .int .i64 s1_1, .int .i64 s1_2, .int .i64 s1_3] #[.int .i64 s3_0, .int .i64 s3_1, .int .i64 s3_2, .int .i64 s3_3, .int .i64 s3_4] #[.int .i64 s4_0, .int .i64 s4_1, .int .i64 s4_2, .int .i64 s4_3, .int .i64 s4_4] w') _ from HF.out.cells)
        refine Turns.next 3 rfl (by kernel_rfl) (by rfl) (fun K hK => ?_)
        go_simp
        go_at_call 17
        refine (hh' _).mono ?_
        rintro e wn3 ⟨rfl, hb⟩
        replace HF := Lib.hid (hS.2.2.2.2.2.2.2.2.2.2.2.2.2.2.2.2.2.2.next hb)
        clear hb
        refine hK.out _ _ (show (fun (w' : World) => w'.cell? ⟨w.heap.size, 0, none⟩ = some (.int .i64 s0_0) ∧ w'.cell? ⟨w.heap.size, 1, none⟩ = some (.int .i64 s0_1) ∧ w'.cell? ⟨w.heap.size, 2, none⟩ = some (.int .i64 s0_2) ∧ w'.cell? ⟨w.heap.size, 3, none⟩ = some (.int .i64 s0_3) ∧ w'.cell? ⟨w.heap.size + 1, 0, none⟩ = some (.int .i64 s1_0) ∧ w'.cell? ⟨w.heap.size + 1, 1, none⟩ = some (.int .i64 s1_1) ∧ w'.cell? ⟨w.heap.size + 1, 2, none⟩ = some (.int .i64 s1_2) ∧ w'.cell? ⟨w.heap.size + 1, 3, none⟩ = some (.int .i64 s1_3) ∧ w'.cell? ⟨w.heap.size + 1 + 1, 0, none⟩ = some (.int .i64 s3_0) ∧ w'.cell? ⟨w.heap.size + 1 + 1, 1, none⟩ = some (.int .i64 s3_1) ∧ w'.cell? ⟨w.heap.size + 1 + 1, 2, none⟩ = some (.int .i64 s3_2) ∧ w'.cell? ⟨w.heap.size + 1 + 1, 3, none⟩ = some (.int .i64 s3_3) ∧ w'.cell? ⟨w.heap.size + 1 + 1, 4, none⟩ = some (.int .i64 s3_4) ∧ w'.cell? ⟨w.heap.size + 1 + 1 + 1, 0, none⟩ = some (.int .i64 s4_0) ∧ w'.cell? ⟨w.heap.size + 1 + 1 + 1, 1, none⟩ = some (.int .i64 s4_1) ∧ w'.cell? ⟨w.heap.size + 1 + 1 + 1, 2, none⟩ = some (.int .i64 s4_2) ∧ w'.cell? ⟨w.heap.size + 1 + 1 + 1, 3, none⟩ = some (.int .i64 s4_3) ∧ w'.cell? ⟨w.heap.size + 1 + 1 + 1, 4, none⟩ = some (.int .i64 s4_4) ∧ Four w 23 40 #[.int .i64 s0_0, .int .i64 s0_1, .int .i64 s0_2, .int .i64 s0_3] #[.int .i64 s1_0, .int .i64 s1_1, .int .i64 s1_2, .int .i64 s1_3] #[.int .i64 s3_0, .int .i64 s3_1, .int .i64 s3_2, .int .i64 s3_3, .int .i64 s3_4] #[.int .i64 s4_0, .int .i64 s4_1, .int .i64 s4_2, .int .i64 s4_3, .int .i64 s4_4] w') _ from HF.out.cells) ?_
        clear hK K hS
        have hS := (show (fun (w' : World) => w'.cell? ⟨w.heap.size, 0, none⟩ = some (.int .i64 s0_0) ∧ w'.cell? ⟨w.heap.size, 1, none⟩ = some (.int .i64 s0_1) ∧ w'.cell? ⟨w.heap.size, 2, none⟩ = some (.int .i64 s0_2) ∧ w'.cell? ⟨w.heap.size, 3, none⟩ = some (.int .i64 s0_3) ∧ w'.cell? ⟨w.heap.size + 1, 0, none⟩ = some (.int .i64 s1_0) ∧ w'.cell? ⟨w.heap.size + 1, 1, none⟩ = some (.int .i64 s1_1) ∧ w'.cell? ⟨w.heap.size + 1, 2, none⟩ = some (.int .i64 s1_2) ∧ w'.cell? ⟨w.heap.size + 1, 3, none⟩ = some (.int .i64 s1_3) ∧ w'.cell? ⟨w.heap.size + 1 + 1, 0, none⟩ = some (.int .i64 s3_0) ∧ w'.cell? ⟨w.heap.size + 1 + 1, 1, none⟩ = some (.int .i64 s3_1) ∧ w'.cell? ⟨w.heap.size + 1 + 1, 2, none⟩ = some (.int .i64 s3_2) ∧ w'.cell? ⟨w.heap.size + 1 + 1, 3, none⟩ = some (.int .i64 s3_3) ∧ w'.cell? ⟨w.heap.size + 1 + 1, 4, none⟩ = some (.int .i64 s3_4) ∧ w'.cell? ⟨w.heap.size + 1 + 1 + 1, 0, none⟩ = some (.int .i64 s4_0) ∧ w'.cell? ⟨w.heap.size + 1 + 1 + 1, 1, none⟩ = some (.int .i64 s4_1) ∧ w'.cell? ⟨w.heap.size + 1 + 1 + 1, 2, none⟩ = some (.int .i64 s4_2) ∧ w'.cell? ⟨w.heap.size + 1 + 1 + 1, 3, none⟩ = some (.int .i64 s4_3) ∧ w'.cell? ⟨w.heap.size + 1 + 1 + 1, 4, none⟩ = some (.int .i64 s4_4) ∧ Four w 23 40 #[.int .i64 s0_0, .int .i64 s0_1, .int .i64 s0_2, .int .i64 s0_3] #[.int .i64 s1_0, .int .i64 s1_1, .int .i64 s1_2, .int .i64 s1_3] #[.int .i64 s3_0, .int .i64 s3_1, .int .i64 s3_2, .int .i64 s3_3, .int .i64 s3_4] #[.int .i64 s4_0, .int .i64 s4_1, .int .i64 s4_2, .int .i64 s4_3, .int .i64 s4_4] w') _ from HF.out.cells)
        refine Turns.take hS 4 _ rfl (by kernel_rfl) (by kernel_rfl) (by kernel_rfl) (by kernel_rfl) (fun _ _ _ h => h) (by rfl) (fun w' hS' => by (try dsimp only at hS'); go_split_ands; go_simp; (try with_reducible rfl)) ?_
        simp only [Act.put, List.getElem_toArray, List.getElem_cons_succ, List.getElem_cons_zero, List.setIfInBounds_toArray, List.set_cons_zero, List.set_cons_succ]
        refine Turns.take hS 5 _ rfl (by kernel_rfl) (by kernel_rfl) (by kernel_rfl) (by kernel_rfl) (fun _ _ _ h => h) (by rfl) (fun w' hS' => by (try dsimp only at hS'); go_split_ands; go_simp; (try with_reducible rfl)) ?_
        simp only [Act.put, List.getElem_toArray, List.getElem_cons_succ, List.getElem_cons_zero, List.setIfInBounds_toArray, List.set_cons_zero, List.set_cons_succ]
        refine Turns.take hS 6 _ rfl (by kernel_rfl) (by kernel_rfl) (by kernel_rfl) (by kernel_rfl) (fun _ _ _ h => h) (by rfl) (fun w' hS' => by (try dsimp only at hS'); go_split_ands; go_simp; (try with_reducible rfl)) ?_
        simp only [Act.put, List.getElem_toArray, List.getElem_cons_succ, List.getElem_cons_zero, List.setIfInBounds_toArray, List.set_cons_zero, List.set_cons_succ]
        refine Turns.take hS 8 _ rfl (by kernel_rfl) (by kernel_rfl) (by kernel_rfl) (by kernel_rfl) (fun _ _ _ h => h) (by rfl) (fun w' hS' => by (try dsimp only at hS'); go_split_ands; go_simp; (try with_reducible rfl)) ?_
        simp only [Act.put, List.getElem_toArray, List.getElem_cons_succ, List.getElem_cons_zero, List.setIfInBounds_toArray, List.set_cons_zero, List.set_cons_succ]
        refine Turns.next 7 rfl (by kernel_rfl) (by rfl) (fun K hK => ?_)
        go_simp
        go_at_call 19
        refine (hr _).mono ?_
        rintro e wn7 ⟨rfl, hb⟩
        replace HF := Lib.hid (hS.2.2.2.2.2.2.2.2.2.2.2.2.2.2.2.2.2.2.next hb)
        clear hb
        refine hK.out _ _ (show (fun (w' : World) => w'.cell? ⟨w.heap.size, 0, none⟩ = some (.int .i64 s0_0) ∧ w'.cell? ⟨w.heap.size, 1, none⟩ = some (.int .i64 s0_1) ∧ w'.cell? ⟨w.heap.size, 2, none⟩ = some (.int .i64 s0_2) ∧ w'.cell? ⟨w.heap.size, 3, none⟩ = some (.int .i64 s0_3) ∧ w'.cell? ⟨w.heap.size + 1, 0, none⟩ = some (.int .i64 s1_0) ∧ w'.cell? ⟨w.heap.size + 1, 1, none⟩ = some (.int .i64 s1_1) ∧ w'.cell? ⟨w.heap.size + 1, 2, none⟩ = some (.int .i64 s1_2) ∧ w'.cell? ⟨w.heap.size + 1, 3, none⟩ = some (.int .i64 s1_3) ∧ w'.cell? ⟨w.heap.size + 1 + 1, 0, none⟩ = some (.int .i64 s3_0) ∧ w'.cell? ⟨w.heap.size + 1 + 1, 1, none⟩ = some (.int .i64 s3_1) ∧ w'.cell? ⟨w.heap.size + 1 + 1, 2, none⟩ = some (.int .i64 s3_2) ∧ w'.cell? ⟨w.heap.size + 1 + 1, 3, none⟩ = some (.int .i64 s3_3) ∧ w'.cell? ⟨w.heap.size + 1 + 1, 4, none⟩ = some (.int .i64 s3_4) ∧ w'.cell? ⟨w.heap.size + 1 + 1 + 1, 0, none⟩ = some (.int .i64 s4_0) ∧ w'.cell? ⟨w.heap.size + 1 + 1 + 1, 1, none⟩ = some (.int .i64 s4_1) ∧ w'.cell? ⟨w.heap.size + 1 + 1 + 1, 2, none⟩ = some (.int .i64 s4_2) ∧ w'.cell? ⟨w.heap.size + 1 + 1 + 1, 3, none⟩ = some (.int .i64 s4_3) ∧ w'.cell? ⟨w.heap.size + 1 + 1 + 1, 4, none⟩ = some (.int .i64 s4_4) ∧ Four w 23 40 #[.int .i64 s0_0, .int .i64 s0_1, .int .i64 s0_2, .int .i64 s0_3] #[.int .i64 s1_0, .int .i64 s1_1, .int .i64 s1_2, .int .i64 s1_3] #[.int .i64 s3_0, .int .i64 s3_1, .int .i64 s3_2, .int .i64 s3_3, .int .i64 s3_4] #[.int .i64 s4_0, .int .i64 s4_1, .int .i64 s4_2, .int .i64 s4_3, .int .i64 s4_4] w') _ from HF.out.cells) ?_
        clear hK K hS
        have hS := (show (fun (w' : World) => w'.cell? ⟨w.heap.size, 0, none⟩ = some (.int .i64 s0_0) ∧ w'.cell? ⟨w.heap.size, 1, none⟩ = some (.int .i64 s0_1) ∧ w'.cell? ⟨w.heap.size, 2, none⟩ = some (.int .i64 s0_2) ∧ w'.cell? ⟨w.heap.size, 3, none⟩ = some (.int .i64 s0_3) ∧ w'.cell? ⟨w.heap.size + 1, 0, none⟩ = some (.int .i64 s1_0) ∧ w'.cell? ⟨w.heap.size + 1, 1, none⟩ = some (.int .i64 s1_1) ∧ w'.cell? ⟨w.heap.size + 1, 2, none⟩ = some (.int .i64 s1_2) ∧ w'.cell? ⟨w.heap.size + 1, 3, none⟩ = some (.int .i64 s1_3) ∧ w'.cell? ⟨w.heap.size + 1 + 1, 0, none⟩ = some (.int .i64 s3_0) ∧ w'.cell? ⟨w.heap.size + 1 + 1, 1, none⟩ = some (.int .i64 s3_1) ∧ w'.cell? ⟨w.heap.size + 1 + 1, 2, none⟩ = some (.int .i64 s3_2) ∧ w'.cell? ⟨w.heap.size + 1 + 1, 3, none⟩ = some (.int .i64 s3_3) ∧ w'.cell? ⟨w.heap.size + 1 + 1, 4, none⟩ = some (.int .i64 s3_4) ∧ w'.cell? ⟨w.heap.size + 1 + 1 + 1, 0, none⟩ = some (.int .i64 s4_0) ∧ w'.cell? ⟨w.heap.size + 1 + 1 + 1, 1, none⟩ = some (.int .i64 s4_1) ∧ w'.cell? ⟨w.heap.size + 1 + 1 + 1, 2, none⟩ = some (.int .i64 s4_2) ∧ w'.cell? ⟨w.heap.size + 1 + 1 + 1, 3, none⟩ = some (.int .i64 s4_3) ∧ w'.cell? ⟨w.heap.size + 1 + 1 + 1, 4, none⟩ = some (.int .i64 s4_4) ∧ Four w 23 40 #[.int .i64 s0_0, .int .i64 s0_1, .int .i64 s0_2, .int .i64 s0_3] #[.int .i64 s1_0, .int .i64 s1_1, .int .i64 s1_2, .int .i64 s1_3] #[.int .i64 s3_0, .int .i64 s3_1, .int .i64 s3_2, .int .i64 s3_3, .int .i64 s3_4] #[.int .i64 s4_0, .int .i64 s4_1, .int .i64 s4_2, .int .i64 s4_3, .int .i64 s4_4] w') _ from HF.out.cells)
        refine Turns.next 9 rfl (by kernel_rfl) (by rfl) (fun K hK => ?_)
        go_simp
        go_at_call 19
        refine (hr' _).mono ?_
        rintro e wn9 ⟨rfl, hb⟩
        replace HF := Lib.hid (hS.2.2.2.2.2.2.2.2.2.2.2.2.2.2.2.2.2.2.next hb)
        clear hb
        refine hK.out _ _ (show (fun (w' : World) => w'.cell? ⟨w.heap.size, 0, none⟩ = some (.int .i64 s0_0) ∧ w'.cell? ⟨w.heap.size, 1, none⟩ = some (.int .i64 s0_1) ∧ w'.cell? ⟨w.heap.size, 2, none⟩ = some (.int .i64 s0_2) ∧ w'.cell? ⟨w.heap.size, 3, none⟩ = some (.int .i64 s0_3) ∧ w'.cell? ⟨w.heap.size + 1, 0, none⟩ = some (.int .i64 s1_0) ∧ w'.cell? ⟨w.heap.size + 1, 1, none⟩ = some (.int .i64 s1_1) ∧ w'.cell? ⟨w.heap.size + 1, 2, none⟩ = some (.int .i64 s1_2) ∧ w'.cell? ⟨w.heap.size + 1, 3, none⟩ = some (.int .i64 s1_3) ∧ w'.cell? ⟨w.heap.size + 1 + 1, 0, none⟩ = some (.int .i64 s3_0) ∧ w'.cell? ⟨w.heap.size + 1 + 1, 1, none⟩ = some (.int .i64 s3_1) ∧ w'.cell? ⟨w.heap.size + 1 + 1, 2, none⟩ = some (.int .i64 s3_2) ∧ w'.cell? ⟨w.heap.size + 1 + 1, 3, none⟩ = some (.int .i64 s3_3) ∧ w'.cell? ⟨w.heap.size + 1 + 1, 4, none⟩ = some (.int .i64 s3_4) ∧ w'.cell? ⟨w.heap.size + 1 + 1 + 1, 0, none⟩ = some (.int .i64 s4_0) ∧ w'.cell? ⟨w.heap.size + 1 + 1 + 1, 1, none⟩ = some (.int .i64 s4_1) ∧ w'.cell? ⟨w.heap.size + 1 + 1 + 1, 2, none⟩ = some (.int .i64 s4_2) ∧ w'.cell? ⟨w.heap.size + 1 + 1 + 1, 3, none⟩ = some (.int .i64 s4_3) ∧ w'.cell? ⟨w.heap.size + 1 + 1 + 1, 4, none⟩ = some (.int .i64 s4_4) ∧ Four w 23 40 #[.int .i64 s0_0, .int .i64 s0_1, .int .i64 s0_2, .int .i64 s0_3] #[.int .i64 s1_0, .int .i64 s1_1, .int .i64 s1_2, .int .i64 s1_3] #[.int .i64 s3_0, .int .i64 s3_1, .int .i64 s3_2, .int .i64 s3_3, .int .i64 s3_4] #[.int .i64 s4_0, .int .i64 s4_1, .int .i64 s4_2, .int .i64 s4_3, .int .i64 s4_4] w') _ from HF.out.cells) ?_
        clear hK K hS
        have hS := (show (fun (w' : World) => w'.cell? ⟨w.heap.size, 0, none⟩ = some (.int .i64 s0_0) ∧ w'.cell? ⟨w.heap.size, 1, none⟩ = some (.int .i64 s0_1) ∧ w'.cell? ⟨w.heap.size, 2, none⟩ = some (.int .i64 s0_2) ∧ w'.cell? ⟨w.heap.size, 3, none⟩ = some (.int .i64 s0_3) ∧ w'.cell? ⟨w.heap.size + 1, 0, none⟩ = some (.int .i64 s1_0) ∧ w'.cell? ⟨w.heap.size + 1, 1, none⟩ = some (.int .i64 s1_1) ∧ w'.cell? ⟨w.heap.size + 1, 2, none⟩ = some (.int .i64 s1_2) ∧ w'.cell? ⟨w.heap.size + 1, 3, none⟩ = some (.int .i64 s1_3) ∧ w'.cell? ⟨w.heap.size + 1 + 1, 0, none⟩ = some (.int .i64 s3_0) ∧ w'.cell? ⟨w.heap.size + 1 + 1, 1, none⟩ = some (.int .i64 s3_1) ∧ w'.cell? ⟨w.heap.size + 1 + 1, 2, none⟩ = some (.int .i64 s3_2) ∧ w'.cell? ⟨w.heap.size + 1 + 1, 3, none⟩ = some (.int .i64 s3_3) ∧ w'.cell? ⟨w.heap.size + 1 + 1, 4, none⟩ = some (.int .i64 s3_4) ∧ w'.cell? ⟨w.heap.size + 1 + 1 + 1, 0, none⟩ = some (.int .i64 s4_0) ∧ w'.cell? ⟨w.heap.size + 1 + 1 + 1, 1, none⟩ = some (.int .i64 s4_1) ∧ w'.cell? ⟨w.heap.size + 1 + 1 + 1, 2, none⟩ = some (.int .i64 s4_2) ∧ w'.cell? ⟨w.heap.size + 1 + 1 + 1, 3, none⟩ = some (.int .i64 s4_3) ∧ w'.cell? ⟨w.heap.size + 1 + 1 + 1, 4, none⟩ = some (.int .i64 s4_4) ∧ Four w 23 40 #[.int .i64 s0_0, .int .i64 s0_1, .int .i64 s0_2, .int .i64 s0_3] #[.int .i64 s1_0, .int .i64 s1_1, .int .i64 s1_2, .int .i64 s1_3] #[.int .i64 s3_0, .int .i64 s3_1, .int .i64 s3_2, .int .i64 s3_3, .int .i64 s3_4] #[.int .i64 s4_0, .int .i64 s4_1, .int .i64 s4_2, .int .i64 s4_3, .int .i64 s4_4] w') _ from HF.out.cells)
        refine Turns.take hS 10 _ rfl (by kernel_rfl) (by kernel_rfl) (by kernel_rfl) (by kernel_rfl) (fun _ _ _ h => h) (by rfl) (fun w' hS' => by (try dsimp only at hS'); go_split_ands; go_simp; (try with_reducible rfl)) ?_
        simp only [Act.put, List.getElem_toArray, List.getElem_cons_succ, List.getElem_cons_zero, List.setIfInBounds_toArray, List.set_cons_zero, List.set_cons_succ]
        refine Turns.take hS 11 _ rfl (by kernel_rfl) (by kernel_rfl) (by kernel_rfl) (by kernel_rfl) (fun _ _ _ h => h) (by rfl) (fun w' hS' => by (try dsimp only at hS'); go_split_ands; go_simp; (try with_reducible rfl)) ?_
        simp only [Act.put, List.getElem_toArray, List.getElem_cons_succ, List.getElem_cons_zero, List.setIfInBounds_toArray, List.set_cons_zero, List.set_cons_succ]
        refine Turns.take hS 12 _ rfl (by kernel_rfl) (by kernel_rfl) (by kernel_rfl) (by kernel_rfl) (fun _ _ _ h => h) (by rfl) (fun w' hS' => by (try dsimp only at hS'); go_split_ands; go_simp; (try with_reducible rfl)) ?_
        simp only [Act.put, List.getElem_toArray, List.getElem_cons_succ, List.getElem_cons_zero, List.setIfInBounds_toArray, List.set_cons_zero, List.set_cons_succ]
        refine Turns.take hS 13 _ rfl (by kernel_rfl) (by kernel_rfl) (by kernel_rfl) (by kernel_rfl) (fun _ _ _ h => h) (by rfl) (fun w' hS' => by (try dsimp only at hS'); go_split_ands; go_simp; (try with_reducible rfl)) ?_
        simp only [Act.put, List.getElem_toArray, List.getElem_cons_succ, List.getElem_cons_zero, List.setIfInBounds_toArray, List.set_cons_zero, List.set_cons_succ]
        refine Turns.take hS 14 _ rfl (by kernel_rfl) (by kernel_rfl) (by kernel_rfl) (by kernel_rfl) (fun _ _ _ h => h) (by rfl) (fun w' hS' => by (try dsimp only at hS'); go_split_ands; go_simp; (try with_reducible rfl)) ?_
        simp only [Act.put, List.getElem_toArray, List.getElem_cons_succ, List.getElem_cons_zero, List.setIfInBounds_toArray, List.set_cons_zero, List.set_cons_succ]
        refine Turns.take hS 16 _ rfl (by kernel_rfl) (by kernel_rfl) (by kernel_rfl) (by kernel_rfl) (fun _ _ _ h => h) (by rfl) (fun w' hS' => by (try dsimp only at hS'); go_split_ands; go_simp; (try with_reducible rfl)) ?_
        simp only [Act.put, List.getElem_toArray, List.getElem_cons_succ, List.getElem_cons_zero, List.setIfInBounds_toArray, List.set_cons_zero, List.set_cons_succ]
        refine Turns.take hS 17 _ rfl (by kernel_rfl) (by kernel_rfl) (by kernel_rfl) (by kernel_rfl) (fun _ _ _ h => h) (by rfl) (fun w' hS' => by (try dsimp only at hS'); go_split_ands; go_simp; (try with_reducible rfl)) ?_
        simp only [Act.put, List.getElem_toArray, List.getElem_cons_succ, List.getElem_cons_zero, List.setIfInBounds_toArray, List.set_cons_zero, List.set_cons_succ]
        refine Turns.next 15 rfl (by kernel_rfl) (by rfl) (fun K hK => ?_)
        go_simp
        go_at_call 21
        refine (he _).mono ?_
        rintro e wn15 ⟨rfl, hb⟩
        replace HF := Lib.hid (hS.2.2.2.2.2.2.2.2.2.2.2.2.2.2.2.2.2.2.next hb)
        clear hb
        refine hK.out _ _ (show (fun (w' : World) => w'.cell? ⟨w.heap.size, 0, none⟩ = some (.int .i64 s0_0) ∧ w'.cell? ⟨w.heap.size, 1, none⟩ = some (.int .i64 s0_1) ∧ w'.cell? ⟨w.heap.size, 2, none⟩ = some (.int .i64 s0_2) ∧ w'.cell? ⟨w.heap.size, 3, none⟩ = some (.int .i64 s0_3) ∧ w'.cell? ⟨w.heap.size + 1, 0, none⟩ = some (.int .i64 s1_0) ∧ w'.cell? ⟨w.heap.size + 1, 1, none⟩ = some (.int .i64 s1_1) ∧ w'.cell? ⟨w.heap.size + 1, 2, none⟩ = some (.int .i64 s1_2) ∧ w'.cell? ⟨w.heap.size + 1, 3, none⟩ = some (.int .i64 s1_3) ∧ w'.cell? ⟨w.heap.size + 1 + 1, 0, none⟩ = some (.int .i64 s3_0) ∧ w'.cell? ⟨w.heap.size + 1 + 1, 1, none⟩ = some (.int .i64 s3_1) ∧ w'.cell? ⟨w.heap.size + 1 + 1, 2, none⟩ = some (.int .i64 s3_2) ∧ w'.cell? ⟨w.heap.size + 1 + 1, 3, none⟩ = some (.int .i64 s3_3) ∧ w'.cell? ⟨w.heap.size + 1 + 1, 4, none⟩ = some (.int .i64 s3_4) ∧ w'.cell? ⟨w.heap.size + 1 + 1 + 1, 0, none⟩ = some (.int .i64 s4_0) ∧ w'.cell? ⟨w.heap.size + 1 + 1 + 1, 1, none⟩ = some (.int .i64 s4_1) ∧ w'.cell? ⟨w.heap.size + 1 + 1 + 1, 2, none⟩ = some (.int .i64 s4_2) ∧ w'.cell? ⟨w.heap.size + 1 + 1 + 1, 3, none⟩ = some (.int .i64 s4_3) ∧ w'.cell? ⟨w.heap.size + 1 + 1 + 1, 4, none⟩ = some (.int .i64 s4_4) ∧ Four w 23 40 #[.int .i64 s0_0, .int .i64 s0_1, .int .i64 s0_2, .int .i64 s0_3] #[.int .i64 s1_0, .int .i64 s1_1, .int .i64 s1_2, .int .i64 s1_3] #[.int .i64 s3_0, .int .i64 s3_1, .int .i64 s3_2, .int .i64 s3_3, .int .i64 s3_4] #[.int .i64 s4_0, .int .i64 s4_1, .int .i64 s4_2, .int .i64 s4_3, .int .i64 s4_4] w') _ from HF.out.cells) ?_
        clear hK K hS
        have hS := (show (fun (w' : World) => w'.cell? ⟨w.heap.size, 0, none⟩ = some (.int .i64 s0_0) ∧ w'.cell? ⟨w.heap.size, 1, none⟩ = some (.int .i64 s0_1) ∧ w'.cell? ⟨w.heap.size, 2, none⟩ = some (.int .i64 s0_2) ∧ w'.cell? ⟨w.heap.size, 3, none⟩ = some (.int .i64 s0_3) ∧ w'.cell? ⟨w.heap.size + 1, 0, none⟩ = some (.int .i64 s1_0) ∧ w'.cell? ⟨w.heap.size + 1, 1, none⟩ = some (.int .i64 s1_1) ∧ w'.cell? ⟨w.heap.size + 1, 2, none⟩ = some (.int .i64 s1_2) ∧ w'.cell? ⟨w.heap.size + 1, 3, none⟩ = some (.int .i64 s1_3) ∧ w'.cell? ⟨w.heap.size + 1 + 1, 0, none⟩ = some (.int .i64 s3_0) ∧ w'.cell? ⟨w.heap.size + 1 + 1, 1, none⟩ = some (.int .i64 s3_1) ∧ w'.cell? ⟨w.heap.size + 1 + 1, 2, none⟩ = some (.int .i64 s3_2) ∧ w'.cell? ⟨w.heap.size + 1 + 1, 3, none⟩ = some (.int .i64 s3_3) ∧ w'.cell? ⟨w.heap.size + 1 + 1, 4, none⟩ = some (.int .i64 s3_4) ∧ w'.cell? ⟨w.heap.size + 1 + 1 + 1, 0, none⟩ = some (.int .i64 s4_0) ∧ w'.cell? ⟨w.heap.size + 1 + 1 + 1, 1, none⟩ = some (.int .i64 s4_1) ∧ w'.cell? ⟨w.heap.size + 1 + 1 + 1, 2, none⟩ = some (.int .i64 s4_2) ∧ w'.cell? ⟨w.heap.size + 1 + 1 + 1, 3, none⟩ = some (.int .i64 s4_3) ∧ w'.cell? ⟨w.heap.size + 1 + 1 + 1, 4, none⟩ = some (.int .i64 s4_4) ∧ Four w 23 40 #[.int .i64 s0_0, .int .i64 s0_1, .int .i64 s0_2, .int .i64 s0_3] #[.int .i64 s1_0, .int .i64 s1_1, .int .i64 s1_2, .int .i64 s1_3] #[.int .i64 s3_0, .int .i64 s3_1, .int .i64 s3_2, .int .i64 s3_3, .int .i64 s3_4] #[.int .i64 s4_0, .int .i64 s4_1, .int .i64 s4_2, .int .i64 s4_3, .int .i64 s4_4] w') _ from HF.out.cells)
        refine Turns.next 18 rfl (by kernel_rfl) (by rfl) (fun K hK => ?_)
        go_simp
        go_at_call 21
        refine (he' _).mono ?_
        rintro e wn18 ⟨rfl, hb⟩
        replace HF := Lib.hid (hS.2.2.2.2.2.2.2.2.2.2.2.2.2.2.2.2.2.2.next hb)
        clear hb
        refine hK.out _ _ (show (fun (w' : World) => w'.cell? ⟨w.heap.size, 0, none⟩ = some (.int .i64 s0_0) ∧ w'.cell? ⟨w.heap.size, 1, none⟩ = some (.int .i64 s0_1) ∧ w'.cell? ⟨w.heap.size, 2, none⟩ = some (.int .i64 s0_2) ∧ w'.cell? ⟨w.heap.size, 3, none⟩ = some (.int .i64 s0_3) ∧ w'.cell? ⟨w.heap.size + 1, 0, none⟩ = some (.int .i64 s1_0) ∧ w'.cell? ⟨w.heap.size + 1, 1, none⟩ = some (.int .i64 s1_1) ∧ w'.cell? ⟨w.heap.size + 1, 2, none⟩ = some (.int .i64 s1_2) ∧ w'.cell? ⟨w.heap.size + 1, 3, none⟩ = some (.int .i64 s1_3) ∧ w'.cell? ⟨w.heap.size + 1 + 1, 0, none⟩ = some (.int .i64 s3_0) ∧ w'.cell? ⟨w.heap.size + 1 + 1, 1, none⟩ = some (.int .i64 s3_1) ∧ w'.cell? ⟨w.heap.size + 1 + 1, 2, none⟩ = some (.int .i64 s3_2) ∧ w'.cell? ⟨w.heap.size + 1 + 1, 3, none⟩ = some (.int .i64 s3_3) ∧ w'.cell? ⟨w.heap.size + 1 + 1, 4, none⟩ = some (.int .i64 s3_4) ∧ w'.cell? ⟨w.heap.size + 1 + 1 + 1, 0, none⟩ = some (.int .i64 s4_0) ∧ w'.cell? ⟨w.heap.size + 1 + 1 + 1, 1, none⟩ = some (.int .i64 s4_1) ∧ w'.cell? ⟨w.heap.size + 1 + 1 + 1, 2, none⟩ = some (.int .i64 s4_2) ∧ w'.cell? ⟨w.heap.size + 1 + 1 + 1, 3, none⟩ = some (.int .i64 s4_3) ∧ w'.cell? ⟨w.heap.size + 1 + 1 + 1, 4, none⟩ = some (.int .i64 s4_4) ∧ Four w 23 40 #[.int .i64 s0_0, .int .i64 s0_1, .int .i64 s0_2, .int .i64 s0_3] #[.int .i64 s1_0, .int .i64 s1_1, .int .i64 s1_2, .int .i64 s1_3] #[.int .i64 s3_0, .int .i64 s3_1, .int .i64 s3_2, .int .i64 s3_3, .int .i64 s3_4] #[.int .i64 s4_0, .int .i64 s4_1, .int .i64 s4_2, .int .i64 s4_3, .int .i64 s4_4] w') _ from HF.out.cells) ?_
        clear hK K hS
        have hS := (show (fun (w' : World) => w'.cell? ⟨w.heap.size, 0, none⟩ = some (.int .i64 s0_0) ∧ w'.cell? ⟨w.heap.size, 1, none⟩ = some (.int .i64 s0_1) ∧ w'.cell? ⟨w.heap.size, 2, none⟩ = some (.int .i64 s0_2) ∧ w'.cell? ⟨w.heap.size, 3, none⟩ = some (.int .i64 s0_3) ∧ w'.cell? ⟨w.heap.size + 1, 0, none⟩ = some (.int .i64 s1_0) ∧ w'.cell? ⟨w.heap.size + 1, 1, none⟩ = some (.int .i64 s1_1) ∧ w'.cell? ⟨w.heap.size + 1, 2, none⟩ = some (.int .i64 s1_2) ∧ w'.cell? ⟨w.heap.size + 1, 3, none⟩ = some (.int .i64 s1_3) ∧ w'.cell? ⟨w.heap.size + 1 + 1, 0, none⟩ = some (.int .i64 s3_0) ∧ w'.cell? ⟨w.heap.size + 1 + 1, 1, none⟩ = some (.int .i64 s3_1) ∧ w'.cell? ⟨w.heap.size + 1 + 1, 2, none⟩ = some (.int .i64 s3_2) ∧ w'.cell? ⟨w.heap.size + 1 + 1, 3, none⟩ = some (.int .i64 s3_3) ∧ w'.cell? ⟨w.heap.size + 1 + 1, 4, none⟩ = some (.int .i64 s3_4) ∧ w'.cell? ⟨w.heap.size + 1 + 1 + 1, 0, none⟩ = some (.int .i64 s4_0) ∧ w'.cell? ⟨w.heap.size + 1 + 1 + 1, 1, none⟩ = some (.int .i64 s4_1) ∧ w'.cell? ⟨w.heap.size + 1 + 1 + 1, 2, none⟩ = some (.int .i64 s4_2) ∧ w'.cell? ⟨w.heap.size + 1 + 1 + 1, 3, none⟩ = some (.int .i64 s4_3) ∧ w'.cell? ⟨w.heap.size + 1 + 1 + 1, 4, none⟩ = some (.int .i64 s4_4) ∧ Four w 23 40 #[.int .i64 s0_0, .int .i64 s0_1, .int .i64 s0_2, .int .i64 s0_3] #[.int .i64 s1_0, .int .i64 s1_1, .int .i64 s1_2, .int .i64 s1_3] #[.int .i64 s3_0, .int .i64 s3_1, .int .i64 s3_2, .int .i64 s3_3, .int .i64 s3_4] #[.int .i64 s4_0, .int .i64 s4_1, .int .i64 s4_2, .int .i64 s4_3, .int .i64 s4_4] w') _ from HF.out.cells)
        refine Turns.take hS 19 _ rfl (by kernel_rfl) (by kernel_rfl) (by kernel_rfl) (by kernel_rfl) (fun _ _ _ h => h) (by rfl) (fun w' hS' => by (try dsimp only at hS'); go_split_ands; go_simp; (try with_reducible rfl)) ?_
        simp only [Act.put, List.getElem_toArray, List.getElem_cons_succ, List.getElem_cons_zero, List.setIfInBounds_toArray, List.set_cons_zero, List.set_cons_succ]
        refine Turns.take hS 20 _ rfl (by kernel_rfl) (by kernel_rfl) (by kernel_rfl) (by kernel_rfl) (fun _ _ _ h => h) (by rfl) (fun w' hS' => by (try dsimp only at hS'); go_split_ands; go_simp; (try with_reducible rfl)) ?_
        simp only [Act.put, List.getElem_toArray, List.getElem_cons_succ, List.getElem_cons_zero, List.setIfInBounds_toArray, List.set_cons_zero, List.set_cons_succ]
        refine Turns.take hS 21 _ rfl (by kernel_rfl) (by kernel_rfl) (by kernel_rfl) (by kernel_rfl) (fun _ _ _ h => h) (by rfl) (fun w' hS' => by (try dsimp only at hS'); go_split_ands; go_simp; (try with_reducible rfl)) ?_
        simp only [Act.put, List.getElem_toArray, List.getElem_cons_succ, List.getElem_cons_zero, List.setIfInBounds_toArray, List.set_cons_zero, List.set_cons_succ]
        refine Turns.take hS 22 _ rfl (by kernel_rfl) (by kernel_rfl) (by kernel_rfl) (by kernel_rfl) (fun _ _ _ h => h) (by rfl) (fun w' hS' => by (try dsimp only at hS'); go_split_ands; go_simp; (try with_reducible rfl)) ?_
        simp only [Act.put, List.getElem_toArray, List.getElem_cons_succ, List.getElem_cons_zero, List.setIfInBounds_toArray, List.set_cons_zero, List.set_cons_succ]
        refine Turns.take hS 23 _ rfl (by kernel_rfl) (by kernel_rfl) (by kernel_rfl) (by kernel_rfl) (fun _ _ _ h => h) (by rfl) (fun w' hS' => by (try dsimp only at hS'); go_split_ands; go_simp; (try with_reducible rfl)) ?_
        simp only [Act.put, List.getElem_toArray, List.getElem_cons_succ, List.getElem_cons_zero, List.setIfInBounds_toArray, List.set_cons_zero, List.set_cons_succ]
        refine Turns.take hS 24 _ rfl (by kernel_rfl) (by kernel_rfl) (by kernel_rfl) (by kernel_rfl) (fun _ _ _ h => h) (by rfl) (fun w' hS' => by (try dsimp only at hS'); go_split_ands; go_simp; (try with_reducible rfl)) ?_
        simp only [Act.put, List.getElem_toArray, List.getElem_cons_succ, List.getElem_cons_zero, List.setIfInBounds_toArray, List.set_cons_zero, List.set_cons_succ]
        refine Turns.skip hS 25 rfl (by kernel_rfl) (by kernel_rfl) (by kernel_rfl) (by kernel_rfl) (fun _ _ _ h => h) (by rfl) ?_
        simp only [Act.put, List.getElem_toArray, List.getElem_cons_succ, List.getElem_cons_zero, List.setIfInBounds_toArray, List.set_cons_zero, List.set_cons_succ]
        refine Turns.skip hS 26 rfl (by kernel_rfl) (by kernel_rfl) (by kernel_rfl) (by kernel_rfl) (fun _ _ _ h => h) (by rfl) ?_
        simp only [Act.put, List.getElem_toArray, List.getElem_cons_succ, List.getElem_cons_zero, List.setIfInBounds_toArray, List.set_cons_zero, List.set_cons_succ]
        refine Turns.take hS 27 _ rfl (by kernel_rfl) (by kernel_rfl) (by kernel_rfl) (by kernel_rfl) (fun _ _ _ h => h) (by rfl) (fun w' hS' => by (try dsimp only at hS'); go_split_ands; go_simp; (try with_reducible rfl)) ?_
        simp only [Act.put, List.getElem_toArray, List.getElem_cons_succ, List.getElem_cons_zero, List.setIfInBounds_toArray, List.set_cons_zero, List.set_cons_succ]
        refine Turns.take hS 28 _ rfl (by kernel_rfl) (by kernel_rfl) (by kernel_rfl) (by kernel_rfl) (fun _ _ _ h => h) (by rfl) (fun w' hS' => by (try dsimp only at hS'); go_split_ands; go_simp; (try with_reducible rfl)) ?_
        simp only [Act.put, List.getElem_toArray, List.getElem_cons_succ, List.getElem_cons_zero, List.setIfInBounds_toArray, List.set_cons_zero, List.set_cons_succ]
        refine Turns.skip hS 29 rfl (by kernel_rfl) (by kernel_rfl) (by kernel_rfl) (by kernel_rfl) (fun _ _ _ h => h) (by rfl) ?_
        simp only [Act.put, List.getElem_toArray, List.getElem_cons_succ, List.getElem_cons_zero, List.setIfInBounds_toArray, List.set_cons_zero, List.set_cons_succ]
        refine Turns.skip hS 30 rfl (by kernel_rfl) (by kernel_rfl) (by kernel_rfl) (by kernel_rfl) (fun _ _ _ h => h) (by rfl) ?_
        simp only [Act.put, List.getElem_toArray, List.getElem_cons_succ, List.getElem_cons_zero, List.setIfInBounds_toArray, List.set_cons_zero, List.set_cons_succ]
        refine Turns.skip hS 31 rfl (by kernel_rfl) (by kernel_rfl) (by kernel_rfl) (by kernel_rfl) (fun _ _ _ h => h) (by rfl) ?_
        simp only [Act.put, List.getElem_toArray, List.getElem_cons_succ, List.getElem_cons_zero, List.setIfInBounds_toArray, List.set_cons_zero, List.set_cons_succ]
        refine Turns.skip hS 32 rfl (by kernel_rfl) (by kernel_rfl) (by kernel_rfl) (by kernel_rfl) (fun _ _ _ h => h) (by rfl) ?_
        simp only [Act.put, List.getElem_toArray, List.getElem_cons_succ, List.getElem_cons_zero, List.setIfInBounds_toArray, List.set_cons_zero, List.set_cons_succ]
        refine Turns.skip hS 33 rfl (by kernel_rfl) (by kernel_rfl) (by kernel_rfl) (by kernel_rfl) (fun _ _ _ h => h) (by rfl) ?_
        simp only [Act.put, List.getElem_toArray, List.getElem_cons_succ, List.getElem_cons_zero, List.setIfInBounds_toArray, List.set_cons_zero, List.set_cons_succ]
        refine Turns.skip hS 34 rfl (by kernel_rfl) (by kernel_rfl) (by kernel_rfl) (by kernel_rfl) (fun _ _ _ h => h) (by rfl) ?_
        simp only [Act.put, List.getElem_toArray, List.getElem_cons_succ, List.getElem_cons_zero, List.setIfInBounds_toArray, List.set_cons_zero, List.set_cons_succ]
        refine Turns.skip hS 35 rfl (by kernel_rfl) (by kernel_rfl) (by kernel_rfl) (by kernel_rfl) (fun _ _ _ h => h) (by rfl) ?_
        simp only [Act.put, List.getElem_toArray, List.getElem_cons_succ, List.getElem_cons_zero, List.setIfInBounds_toArray, List.set_cons_zero, List.set_cons_succ]
        refine Turns.skip hS 36 rfl (by kernel_rfl) (by kernel_rfl) (by kernel_rfl) (by kernel_rfl) (fun _ _ _ h => h) (by rfl) ?_
        simp only [Act.put, List.getElem_toArray, List.getElem_cons_succ, List.getElem_cons_zero, List.setIfInBounds_toArray, List.set_cons_zero, List.set_cons_succ]
        refine Turns.take hS 37 _ rfl (by kernel_rfl) (by kernel_rfl) (by kernel_rfl) (by kernel_rfl) (fun _ _ _ h => h) (by rfl) (fun w' hS' => by (try dsimp only at hS'); go_split_ands; go_simp; (try with_reducible rfl)) ?_
        simp only [Act.put, List.getElem_toArray, List.getElem_cons_succ, List.getElem_cons_zero, List.setIfInBounds_toArray, List.set_cons_zero, List.set_cons_succ]
        refine Turns.take hS 38 _ rfl (by kernel_rfl) (by kernel_rfl) (by kernel_rfl) (by kernel_rfl) (fun _ _ _ h => h) (by rfl) (fun w' hS' => by (try dsimp only at hS'); go_split_ands; go_simp; (try with_reducible rfl)) ?_
        simp only [Act.put, List.getElem_toArray, List.getElem_cons_succ, List.getElem_cons_zero, List.setIfInBounds_toArray, List.set_cons_zero, List.set_cons_succ]
        refine Turns.rest (late_done (by kernel_rfl)) ?_
        refine any_tail 39 (by rfl) (by kernel_rfl) ?_
        simp only [List.drop_succ_cons, List.drop_zero]
        clear hS
        go_wp2
        go_meet
        case rel => exact HF.out
      have p0 : decide (0 ≤ a2) = true := decide_eq_true a0
      by_cases a1 : a2 < 63
      rotate_left
      · have p1 : decide (a2 < 63) = false := decide_eq_false a1
        clear m4
        go_upto_region 4 with (fail)
        refine region_turns (fun (w' : World) => w'.cell? ⟨w.heap.size, 0, none⟩ = some (.int .i64 s0_0) ∧ w'.cell? ⟨w.heap.size, 1, none⟩ = some (.int .i64 s0_1) ∧ w'.cell? ⟨w.heap.size, 2, none⟩ = some (.int .i64 s0_2) ∧ w'.cell? ⟨w.heap.size, 3, none⟩ = some (.int .i64 s0_3) ∧ w'.cell? ⟨w.heap.size + 1, 0, none⟩ = some (.int .i64 s1_0) ∧ w'.cell? ⟨w.heap.size + 1, 1, none⟩ = some (.int .i64 s1_1) ∧ w'.cell? ⟨w.heap.size + 1, 2, none⟩ = some (.int .i64 s1_2) ∧ w'.cell? ⟨w.heap.size + 1, 3, none⟩ = some (.int .i64 s1_3) ∧ w'.cell? ⟨w.heap.size + 1 + 1, 0, none⟩ = some (.int .i64 s3_0) ∧ w'.cell? ⟨w.heap.size + 1 + 1, 1, none⟩ = some (.int .i64 s3_1) ∧ w'.cell? ⟨w.heap.size + 1 + 1, 2, none⟩ = some (.int .i64 s3_2) ∧ w'.cell? ⟨w.heap.size + 1 + 1, 3, none⟩ = some (.int .i64 s3_3) ∧ w'.cell? ⟨w.heap.size + 1 + 1, 4, none⟩ = some (.int .i64 s3_4) ∧ w'.cell? ⟨w.heap.size + 1 + 1 + 1, 0, none⟩ = some (.int .i64 s4_0) ∧ w'.cell? ⟨w.heap.size + 1 + 1 + 1, 1, none⟩ = some (.int .i64 s4_1) ∧ w'.cell? ⟨w.heap.size + 1 + 1 + 1, 2, none⟩ = some (.int .i64 s4_2) ∧ w'.cell? ⟨w.heap.size + 1 + 1 + 1, 3, none⟩ = some (.int .i64 s4_3) ∧ w'.cell? ⟨w.heap.size + 1 + 1 + 1, 4, none⟩ = some (.int .i64 s4_4) ∧ Four w 23 40 #[.int .i64 s0_0, .int .i64 s0_1, .int .i64 s0_2, .int .i64 s0_3] #[.int .i64 s1_0, .int .i64 s1_1, .int .i64 s1_2, .int .i64 s1_3] #[.int .i64 s3_0, .int .i64 s3_1, .int .i64 s3_2, .int .i64 s3_3, .int .i64 s3_4] #[.int .i64 s4_0, .int .i64 s4_1, .int .i64 s4_2, .int .i64 s4_3, .int .i64 s4_4] w') (fun j => decide (39 ≤ j)) (by kernel_rfl) (HF.out.drew.cells) (fun hS => ?_)
        refine Turns.take hS 0 _ rfl (by kernel_rfl) (by kernel_rfl) (by kernel_rfl) (by kernel_rfl) (fun _ _ _ h => h) (by rfl) (fun w' hS' => by (try dsimp only at hS'); go_split_ands; go_simp; (try with_reducible rfl)) ?_
        simp only [Act.put, List.getElem_toArray, List.getElem_cons_succ, List.getElem_cons_zero, List.setIfInBounds_toArray, List.set_cons_zero, List.set_cons_succ]
        refine Turns.take hS 2 _ rfl (by kernel_rfl) (by kernel_rfl) (by kernel_rfl) (by kernel_rfl) (fun _ _ _ h => h) (by rfl) (fun w' hS' => by (try dsimp only at hS'); go_split_ands; go_simp; (try with_reducible rfl)) ?_
        simp only [Act.put, List.getElem_toArray, List.getElem_cons_succ, List.getElem_cons_zero, List.setIfInBounds_toArray, List.set_cons_zero, List.set_cons_succ]
        refine Turns.next 1 rfl (by kernel_rfl) (by rfl) (fun K hK => ?_)
        go_simp
        go_at_call 17
        refine (hh _).mono ?_
        rintro e wn1 ⟨rfl, hb⟩
        replace HF := Lib.hid (hS.2.2.2.2.2.2.2.2.2.2.2.2.2.2.2.2.2.2.next hb)
        clear hb
        refine hK.out _ _ (show (fun (w' : World) => w'.cell? ⟨w.heap.size, 0, none⟩ = some (.int .i64 s0_0) ∧ w'.cell? ⟨w.heap.size, 1, none⟩ = some (.int .i64 s0_1) ∧ w'.cell? ⟨w.heap.size, 2, none⟩ = some (.int .i64 s0_2) ∧ w'.cell? ⟨w.heap.size, 3, none⟩ = some (.int .i64 s0_3) ∧ w'.cell? ⟨w.heap.size + 1, 0, none⟩ = some (.int .i64 s1_0) ∧ w'.cell? ⟨w.heap.size + 1, 1, none⟩ = some (.int .i64 s1_1) ∧ w'.cell? ⟨w.heap.size + 1, 2, none⟩ = some (.int .i64 s1_2) ∧ w'.cell? ⟨w.heap.size + 1, 3, none⟩ = some (.int .i64 s1_3) ∧ w'.cell? ⟨w.heap.size + 1 + 1, 0, none⟩ = some (.int .i64 s3_0) ∧ w'.cell? ⟨w.heap.size + 1 + 1, 1, none⟩ = some (.int .i64 s3_1) ∧ w'.cell? ⟨w.heap.size + 1 + 1, 2, none⟩ = some (.int .i64 s3_2) ∧ w'.cell? ⟨w.heap.size + 1 + 1, 3, none⟩ = some (.int .i64 s3_3) ∧ w'.cell? ⟨w.heap.size + 1 + 1, 4, none⟩ = some (.int .i64 s3_4) ∧ w'.cell? ⟨w.heap.size + 1 + 1 + 1, 0, none⟩ = some (.int .i64 s4_0) ∧ w'.cell? ⟨w.heap.size + 1 + 1 + 1, 1, none⟩ = some (.int .i64 s4_1) ∧ w'.cell? ⟨w.heap.size + 1 + 1 + 1, 2, none⟩ = some (.int .i64 s4_2) ∧ w'.cell? ⟨w.heap.size + 1 + 1 + 1, 3, none⟩ = some (.int .i64 s4_3) ∧ w'.cell? ⟨w.heap.size + 1 + 1 + 1, 4, none⟩ = some (.int .i64 s4_4) ∧ Four w 23 40 #[.int .i64 s0_0, .int .i64 s0_1, .int .i64 s0_2, .int .i64 s0_3] #[.int .i64 s1_0, .int .i64 s1_1, .int .i64 s1_2, .int .i64 s1_3] #[.int .i64 s3_0, .int .i64 s3_1, .int .i64 s3_2, .int .i64 s3_3, .int .i64 s3_4] #[.int .i64 s4_0, .int .i64 s4_1, .int .i64 s4_2, .int .i64 s4_3, .int .i64 s4_4] w') _ from HF.out.cells) ?_
        clear hK K hS
        have hS := (show (fun (w' : World) => w'.cell? ⟨w.heap.size, 0, none⟩ = some (.int .i64 s0_0) ∧ w'.cell? ⟨w.heap.size, 1, none⟩ = some (.int .i64 s0_1) ∧ w'.cell? ⟨w.heap.size, 2, none⟩ = some (.int .i64 s0_2) ∧ w'.cell? ⟨w.heap.size, 3, none⟩ = some (.int .i64 s0_3) ∧ w'.cell? ⟨w.heap.size + 1, 0, none⟩ = some (.int .i64 s1_0) ∧ w'.cell? ⟨w.heap.size + 1, 1, none⟩ = some (.int .i64 s1_1) ∧ w'.cell? ⟨w.heap.size + 1, 2, none⟩ = some (.int .i64 s1_2) ∧ w'.cell? ⟨w.heap.size + 1, 3, none⟩ = some (.int .i64 s1_3) ∧ w'.cell? ⟨w.heap.size + 1 + 1, 0, none⟩ = some (.int .i64 s3_0) ∧ w'.cell? ⟨w.heap.size + 1 + 1, 1, none⟩ = some (.int .i64 s3_1) ∧ w'.cell? ⟨w.heap.size + 1 + 1, 2, none⟩ = some (.int .i64 s3_2) ∧ w'.cell? ⟨w.heap.size + 1 + 1, 3, none⟩ = some (.int .i64 s3_3) ∧ w'.cell? ⟨w.heap.size + 1 + 1, 4, none⟩ = some (.int .i64 s3_4) ∧ w'.cell? ⟨w.heap.size + 1 + 1 + 1, 0, none⟩ = some (.int .i64 s4_0) ∧ w'.cell? ⟨w.heap.size + 1 + 1 + 1, 1, none⟩ = some (.int .i64 s4_1) ∧ w'.cell? ⟨w.heap.size + 1 + 1 + 1, 2, none⟩ = some (.int .i64 s4_2) ∧ w'.cell? ⟨w.heap.size + 1 + 1 + 1, 3, none⟩ = some (.int .i64 s4_3) ∧ w'.cell? ⟨w.heap.size + 1 + 1 + 1, 4, none⟩ = some (.int .i64 s4_4) ∧ Four w 23 40 #[.int .i64 s0_0, .int .i64 s0_1, .int .i64 s0_2, .int .i64 s0_3] #[.int .i64 s1_0, .int .i64 s1_1, .int .i64 s1_2, .int .i64 s1_3] #[.int .i64 s3_0, .int .i64 s3_1, .int .i64 s3_2, .int .i64 s3_3, .int .i64 s3_4] #[.int .i64 s4_0, .int .i64 s4_1, .int .i64 s4_2, .int .i64 s4_3, .int .i64 s4_4] w') _ from HF.out.cells)
        refine Turns.next 3 rfl (by kernel_rfl) (by rfl) (fun K hK => ?_)
        go_simp
        go_at_call 17
        refine (hh' _).mono ?_
        rintro e wn3 ⟨rfl, hb⟩
        replace HF := Lib.hid (hS.2.2.2.2.2.2.2.2.2.2.2.2.2.2.2.2.2.2.next hb)
        clear hb
        refine hK.out _ _ (show (fun (w' : World) => w'.cell? ⟨w.heap.size, 0, none⟩ = some (.int .i64 s0_0) ∧ w'.cell? ⟨w.heap.size, 1, none⟩ = some (.int .i64 s0_1) ∧ w'.cell? ⟨w.heap.size, 2, none⟩ = some (.int .i64 s0_2) ∧ w'.cell? ⟨w.heap.size, 3, none⟩ = some (.int .i64 s0_3) ∧ w'.cell? ⟨w.heap.size + 1, 0, none⟩ = some (.int .i64 s1_0) ∧ w'.cell? ⟨w.heap.size + 1, 1, none⟩ = some (.int .i64 s1_1) ∧ w'.cell? ⟨w.heap.size + 1, 2, none⟩ = some (.int .i64 s1_2) ∧ w'.cell? ⟨w.heap.size + 1, 3, none⟩ = some (.int .i64 s1_3) ∧ w'.cell? ⟨w.heap.size + 1 + 1, 0, none⟩ = some (.int .i64 s3_0) ∧ w'.cell? ⟨w.heap.size + 1 + 1, 1, none⟩ = some (.int .i64 s3_1) ∧ w'.cell? ⟨w.heap.size + 1 + 1, 2, none⟩ = some (.int .i64 s3_2) ∧ w'.cell? ⟨w.heap.size + 1 + 1, 3, none⟩ = some (.int .i64 s3_3) ∧ w'.cell? ⟨w.heap.size + 1 + 1, 4, none⟩ = some (.int .i64 s3_4) ∧ w'.cell? ⟨w.heap.size + 1 + 1 + 1, 0, none⟩ = some (.int .i64 s4_0) ∧ w'.cell? ⟨w.heap.size + 1 + 1 + 1, 1, none⟩ = some (.int .i64 s4_1) ∧ w'.cell? ⟨w.heap.size + 1 + 1 + 1, 2, none⟩ = some (.int .i64 s4_2) ∧ w'.cell? ⟨w.heap.size + 1 + 1 + 1, 3, none⟩ = some (.int .i64 s4_3) ∧ w'.cell? ⟨w.heap.size + 1 + 1 + 1, 4, none⟩ = some (.int .i64 s4_4) ∧ Four w 23 40 #[.int .i64 s0_0, .int .i64 s0_1, .int .i64 s0_2, .int .i64 s0_3] #[.int .i64 s1_0, .int .i64 s1_1, .int .i64 s1_2, .int .i64 s1_3] #[.int .i64 s3_0, .int .i64 s3_1, .int .i64 s3_2, .int .i64 s3_3, .int .i64 s3_4] #[.int .i64 s4_0, .int .i64 s4_1, .int .i64 s4_2, .int .i64 s4_3, .int .i64 s4_4] w') _ from HF.out.cells) ?_
        clear hK K hS
        have hS := (show (fun (w' : World) => w'.cell? ⟨w.heap.size, 0, none⟩ = some (.int .i64 s0_0) ∧ w'.cell? ⟨w.heap.size, 1, none⟩ = some (.int .i64 s0_1) ∧ w'.cell? ⟨w.heap.size, 2, none⟩ = some (.int .i64 s0_2) ∧ w'.cell? ⟨w.heap.size, 3, none⟩ = some (.int .i64 s0_3) ∧ w'.cell? ⟨w.heap.size + 1, 0, none⟩ = some (.int .i64 s1_0) ∧ w'.cell? ⟨w.heap.size + 1, 1, none⟩ = some (.int .i64 s1_1) ∧ w'.cell? ⟨w.heap.size + 1, 2, none⟩ = some (.int .i64 s1_2) ∧ w'.cell? ⟨w.heap.size + 1, 3, none⟩ = some (.int .i64 s1_3) ∧ w'.cell? ⟨w.heap.size + 1 + 1, 0, none⟩ = some (.int .i64 s3_0) ∧ w'.cell? ⟨w.heap.size + 1 + 1, 1, none⟩ = some (.int .i64 s3_1) ∧ w'.cell? ⟨w.heap.size + 1 + 1, 2, none⟩ = some (.int .i64 s3_2) ∧ w'.cell? ⟨w.heap.size + 1 + 1, 3, none⟩ = some (.int .i64 s3_3) ∧ w'.cell? ⟨w.heap.size + 1 + 1, 4, none⟩ = some (.int .i64 s3_4) ∧ w'.cell? ⟨w.heap.size + 1 + 1 + 1, 0, none⟩ = some (.int .i64 s4_0) ∧ w'.cell? ⟨w.heap.size + 1 + 1 + 1, 1, none⟩ = some (.int .i64 s4_1) ∧ w'.cell? ⟨w.heap.size + 1 + 1 + 1, 2, none⟩ = some (.int .i64 s4_2) ∧ w'.cell? ⟨w.heap.size + 1 + 1 + 1, 3, none⟩ = some (.int .i64 s4_3) ∧ w'.cell? ⟨w.heap.size + 1 + 1 + 1, 4, none⟩ = some (.int .i64 s4_4) ∧ Four w 23 40 #[.int .i64 s0_0, .int .i64 s0_1, .int .i64 s0_2, .int .i64 s0_3] #[.int .i64 s1_0, .int .i64 s1_1, .int .i64 s1_2, .int .i64 s1_3] #[.int .i64 s3_0, .int .i64 s3_1, .int .i64 s3_2, .int .i64 s3_3, .int .i64 s3_4] #[.int .i64 s4_0, .int .i64 s4_1, .int .i64 s4_2, .int .i64 s4_3, .int .i64 s4_4] w') _ from HF.out.cells)
        refine Turns.take hS 4 _ rfl (by kernel_rfl) (by kernel_rfl) (by kernel_rfl) (by kernel_rfl) (fun _ _ _ h => h) (by rfl) (fun w' hS' => by (try dsimp only at hS'); go_split_ands; go_simp; (try with_reducible rfl)) ?_
        simp only [Act.put, List.getElem_toArray, List.getElem_cons_succ, List.getElem_cons_zero, List.setIfInBounds_toArray, List.set_cons_zero, List.set_cons_succ]
        refine Turns.take hS 5 _ rfl (by kernel_rfl) (by kernel_rfl) (by kernel_rfl) (by kernel_rfl) (fun _ _ _ h => h) (by rfl) (fun w' hS' => by (try dsimp only at hS'); go_split_ands; go_simp; (try with_reducible rfl)) ?_
        simp only [Act.put, List.getElem_toArray, List.getElem_cons_succ, List.getElem_cons_zero, List.setIfInBounds_toArray, List.set_cons_zero, List.set_cons_succ]
        refine Turns.take hS 6 _ rfl (by kernel_rfl) (by kernel_rfl) (by kernel_rfl) (by kernel_rfl) (fun _ _ _ h => h) (by rfl) (fun w' hS' => by (try dsimp only at hS'); go_split_ands; go_simp; (try with_reducible rfl)) ?_
        simp only [Act.put, List.getElem_toArray, List.getElem_cons_succ, List.getElem_cons_zero, List.setIfInBounds_toArray, List.set_cons_zero, List.set_cons_succ]
        refine Turns.take hS 8 _ rfl (by kernel_rfl) (by kernel_rfl) (by kernel_rfl) (by kernel_rfl) (fun _ _ _ h => h) (by rfl) (fun w' hS' => by (try dsimp only at hS'); go_split_ands; go_simp; (try with_reducible rfl)) ?_
        simp only [Act.put, List.getElem_toArray, List.getElem_cons_succ, List.getElem_cons_zero, List.setIfInBounds_toArray, List.set_cons_zero, List.set_cons_succ]
        refine Turns.next 7 rfl (by kernel_rfl) (by rfl) (fun K hK => ?_)
        go_simp
        go_at_call 19
        refine (hr _).mono ?_
        rintro e wn7 ⟨rfl, hb⟩
        replace HF := Lib.hid (hS.2.2.2.2.2.2.2.2.2.2.2.2.2.2.2.2.2.2.next hb)
        clear hb
        refine hK.out _ _ (show (fun (w' : World) => w'.cell? ⟨w.heap.size, 0, none⟩ = some (.int .i64 s0_0) ∧ w'.cell? ⟨w.heap.size, 1, none⟩ = some (.int .i64 s0_1) ∧ w'.cell? ⟨w.heap.size, 2, none⟩ = some (.int .i64 s0_2) ∧ w'.cell? ⟨w.heap.size, 3, none⟩ = some (.int .i64 s0_3) ∧ w'.cell? ⟨w.heap.size + 1, 0, none⟩ = some (.int .i64 s1_0) ∧ w'.cell? ⟨w.heap.size + 1, 1, none⟩ = some (.int .i64 s1_1) ∧ w'.cell? ⟨w.heap.size + 1, 2, none⟩ = some (.int .i64 s1_2) ∧ w'.cell? ⟨w.heap.size + 1, 3, none⟩ = some (.int .i64 s1_3) ∧ w'.cell? ⟨w.heap.size + 1 + 1, 0, none⟩ = some (.int .i64 s3_0) ∧ w'.cell? ⟨w.heap.size + 1 + 1, 1, none⟩ = some (.int .i64 s3_1) ∧ w'.cell? ⟨w.heap.size + 1 + 1, 2, none⟩ = some (.int .i64 s3_2) ∧ w'.cell? ⟨w.heap.size + 1 + 1, 3, none⟩ = some (.int .i64 s3_3) ∧ w'.cell? ⟨w.heap.size + 1 + 1, 4, none⟩ = some (.int .i64 s3_4) ∧ w'.cell? ⟨w.heap.size + 1 + 1 + 1, 0, none⟩ = some (.int .i64 s4_0) ∧ w'.cell? ⟨w.heap.size + 1 + 1 + 1, 1, none⟩ = some (.int .i64 s4_1) ∧ w'.cell? ⟨w.heap.size + 1 + 1 + 1, 2, none⟩ = some (.int .i64 s4_2) ∧ w'.cell? ⟨w.heap.size + 1 + 1 + 1, 3, none⟩ = some (.int .i64 s4_3) ∧ w'.cell? ⟨w.heap.size + 1 + 1 + 1, 4, none⟩ = some (.int .i64 s4_4) ∧ Four w 23 40 #[.int .i64 s0_0, .int .i64 s0_1, .int .i64 s0_2, .int .i64 s0_3] #[.int .i64 s1_0, .int .i64 s1_1, .int .i64 s1_2, .int .i64 s1_3] #[.int .i64 s3_0, .int .i64 s3_1, .int .i64 s3_2, .int .i64 s3_3, .int .i64 s3_4] #[.int .i64 s4_0, .int .i64 s4_1, .int .i64 s4_2, .int .i64 s4_3, .int .i64 s4_4] w') _ from HF.out.cells) ?_
        clear hK K hS
        have hS := (show (fun (w' : World) => w'.cell? ⟨w.heap.size, 0, none⟩ = some (.int .i64 s0_0) ∧ w'.cell? ⟨w.heap.size, 1, none⟩ = some (.int .i64 s0_1) ∧ w'.cell? ⟨w.heap.size, 2, none⟩ = some (.int .i64 s0_2) ∧ w'.cell? ⟨w.heap.size, 3, none⟩ = some (.int .i64 s0_3) ∧ w'.cell? ⟨w.heap.size + 1, 0, none⟩ = some (.int .i64 s1_0) ∧ w'.cell? ⟨w.heap.size + 1, 1, none⟩ = some (.int .i64 s1_1) ∧ w'.cell? ⟨w.heap.size + 1, 2, none⟩ = some (.int .i64 s1_2) ∧ w'.cell? ⟨w.heap.size + 1, 3, none⟩ = some (.int .i64 s1_3) ∧ w'.cell? ⟨w.heap.size + 1 + 1, 0, none⟩ = some (.int .i64 s3_0) ∧ w'.cell? ⟨w.heap.size + 1 + 1, 1, none⟩ = some (.int .i64 s3_1) ∧ w'.cell? ⟨w.heap.size + 1 + 1, 2, none⟩ = some (.int .i64 s3_2) ∧ w'.cell? ⟨w.heap.size + 1 + 1, 3, none⟩ = some (.int .i64 s3_3) ∧ w'.cell? ⟨w.heap.size + 1 + 1, 4, none⟩ = some (.int .i64 s3_4) ∧ w'.cell? ⟨w.heap.size + 1 + 1 + 1, 0, none⟩ = some (.int .i64 s4_0) ∧ w'.cell? ⟨w.heap.size + 1 + 1 + 1, 1, none⟩ = some (.int .i64 s4_1) ∧ w'.cell? ⟨w.heap.size + 1 + 1 + 1, 2, none⟩ = some (.int .i64 s4_2) ∧ w'.cell? ⟨w.heap.size + 1 + 1 + 1, 3, none⟩ = some (.int .i64 s4_3) ∧ w'.cell? ⟨w.heap.size + 1 + 1 + 1, 4, none⟩ = some (.int .i64 s4_4) ∧ Four w 23 40 #[.int .i64 s0_0, .int .i64 s0_1, .int .i64 s0_2, .int .i64 s0_3] #[.int .i64 s1_0, .int .i64 s1_1, .int .i64 s1_2, .int .i64 s1_3] #[.int .i64 s3_0, .int .i64 s3_1, .int .i64 s3_2, .int .i64 s3_3, .int .i64 s3_4] #[.int .i64 s4_0, .int .i64 s4_1, .int .i64 s4_2, .int .i64 s4_3, .int .i64 s4_4] w') _ from HF.out.cells)
        refine Turns.next 9 rfl (by kernel_rfl) (by rfl) (fun K hK => ?_)
        go_simp
        go_at_call 19
        refine (hr' _).mono ?_
        rintro e wn9 ⟨rfl, hb⟩
        replace HF := Lib.hid (hS.2.2.2.2.2.2.2.2.2.2.2.2.2.2.2.2.2.2.next hb)
        clear hb
        refine hK.out _ _ (show (fun (w' : World) => w'.cell? ⟨w.heap.size, 0, none⟩ = some (.int .i64 s0_0) ∧ w'.cell? ⟨w.heap.size, 1, none⟩ = some (.int .i64 s0_1) ∧ w'.cell? ⟨w.heap.size, 2, none⟩ = some (.int .i64 s0_2) ∧ w'.cell? ⟨w.heap.size, 3, none⟩ = some (.int .i64 s0_3) ∧ w'.cell? ⟨w.heap.size + 1, 0, none⟩ = some (.int .i64 s1_0) ∧ w'.cell? ⟨w.heap.size + 1, 1, none⟩ = some (.int .i64 s1_1) ∧ w'.cell? ⟨w.heap.size + 1, 2, none⟩ = some (.int .i64 s1_2) ∧ w'.cell? ⟨w.heap.size + 1, 3, none⟩ = some (.int .i64 s1_3) ∧ w'.cell? ⟨w.heap.size + 1 + 1, 0, none⟩ = some (.int .i64 s3_0) ∧ w'.cell? ⟨w.heap.size + 1 + 1, 1, none⟩ = some (.int .i64 s3_1) ∧ w'.cell? ⟨w.heap.size + 1 + 1, 2, none⟩ = some (.int .i64 s3_2) ∧ w'.cell? ⟨w.heap.size + 1 + 1, 3, none⟩ = some (.int .i64 s3_3) ∧ w'.cell? ⟨w.heap.size + 1 + 1, 4, none⟩ = some (.int .i64 s3_4) ∧ w'.cell? ⟨w.heap.size + 1 + 1 + 1, 0, none⟩ = some (.int .i64 s4_0) ∧ w'.cell? ⟨w.heap.size + 1 + 1 + 1, 1, none⟩ = some (.int .i64 s4_1) ∧ w'.cell? ⟨w.heap.size + 1 + 1 + 1, 2, none⟩ = some (.int .i64 s4_2) ∧ w'.cell? ⟨w.heap.size + 1 + 1 + 1, 3, none⟩ = some (.int .i64 s4_3) ∧ w'.cell? ⟨w.heap.size + 1 + 1 + 1, 4, none⟩ = some (.int .i64 s4_4) ∧ Four w 23 40 #[.int .i64 s0_0, .int .i64 s0_1, .int .i64 s0_2, .int .i64 s0_3] #[.int .i64 s1_0, .int .i64 s1_1, .int .i64 s1_2, .int .i64 s1_3] #[.int .i64 s3_0, .int .i64 s3_1, .int .i64 s3_2, .int .i64 s3_3, .int .i64 s3_4] #[.int .i64 s4_0, .int .i64 s4_1, .int .i64 s4_2, .int .i64 s4_3, .int .i64 s4_4] w') _ from HF.out.cells) ?_
        clear hK K hS
        have hS := (show (fun (w' : World) => w'.cell? ⟨w.heap.size, 0, none⟩ = some (.int .i64 s0_0) ∧ w'.cell? ⟨w.heap.size, 1, none⟩ = some (.int .i64 s0_1) ∧ w'.cell? ⟨w.heap.size, 2, none⟩ = some (.int .i64 s0_2) ∧ w'.cell? ⟨w.heap.size, 3, none⟩ = some (.int .i64 s0_3) ∧ w'.cell? ⟨w.heap.size + 1, 0, none⟩ = some (.int .i64 s1_0) ∧ w'.cell? ⟨w.heap.size + 1, 1, none⟩ = some (.int .i64 s1_1) ∧ w'.cell? ⟨w.heap.size + 1, 2, none⟩ = some (.int .i64 s1_2) ∧ w'.cell? ⟨w.heap.size + 1, 3, none⟩ = some (.int .i64 s1_3) ∧ w'.cell? ⟨w.heap.size + 1 + 1, 0, none⟩ = some (.int .i64 s3_0) ∧ w'.cell? ⟨w.heap.size + 1 + 1, 1, none⟩ = some (.int .i64 s3_1) ∧ w'.cell? ⟨w.heap.size + 1 + 1, 2, none⟩ = some (.int .i64 s3_2) ∧ w'.cell? ⟨w.heap.size + 1 + 1, 3, none⟩ = some (.int .i64 s3_3) ∧ w'.cell? ⟨w.heap.size + 1 + 1, 4, none⟩ = some (.int .i64 s3_4) ∧ w'.cell? ⟨w.heap.size + 1 + 1 + 1, 0, none⟩ = some (.int .i64 s4_0) ∧ w'.cell? ⟨w.heap.size + 1 + 1 + 1, 1, none⟩ = some (.int .i64 s4_1) ∧ w'.cell? ⟨w.heap.size + 1 + 1 + 1, 2, none⟩ = some (.int .i64 s4_2) ∧ w'.cell? ⟨w.heap.size + 1 + 1 + 1, 3, none⟩ = some (.int .i64 s4_3) ∧ w'.cell? ⟨w.heap.size + 1 + 1 + 1, 4, none⟩ = some (.int .i64 s4_4) ∧ Four w 23 40 #[.int .i64 s0_0, .int .i64 s0_1, .int .i64 s0_2, .int .i64 s0_3] #[.int .i64 s1_0, .int .i64 s1_1, .int .i64 s1_2, .int .i64 s1_3] #[.int .i64 s3_0, .int .i64 s3_1, .int .i64 s3_2, .int .i64 s3_3, .int .i64 s3_4] #[.int .i64 s4_0, .int .i64 s4_1, .int .i64 s4_2, .int .i64 s4_3, .int .i64 s4_4] w') _ from HF.out.cells)
        refine Turns.take hS 10 _ rfl (by kernel_rfl) (by kernel_rfl) (by kernel_rfl) (by kernel_rfl) (fun _ _ _ h => h) (by rfl) (fun w' hS' => by (try dsimp only at hS'); go_split_ands; go_simp; (try with_reducible rfl)) ?_
        simp only [Act.put, List.getElem_toArray, List.getElem_cons_succ, List.getElem_cons_zero, List.setIfInBounds_toArray, List.set_cons_zero, List.set_cons_succ]
        refine Turns.take hS 11 _ rfl (by kernel_rfl) (by kernel_rfl) (by kernel_rfl) (by kernel_rfl) (fun _ _ _ h => h) (by rfl) (fun w' hS' => by (try dsimp only at hS'); go_split_ands; go_simp; (try with_reducible rfl)) ?_
        simp only [Act.put, List.getElem_toArray, List.getElem_cons_succ, List.getElem_cons_zero, List.setIfInBounds_toArray, List.set_cons_zero, List.set_cons_succ]
        refine Turns.take hS 12 _ rfl (by kernel_rfl) (by kernel_rfl) (by kernel_rfl) (by kernel_rfl) (fun _ _ _ h => h) (by rfl) (fun w' hS' => by (try dsimp only at hS'); go_split_ands; go_simp; (try with_reducible rfl)) ?_
        simp only [Act.put, List.getElem_toArray, List.getElem_cons_succ, List.getElem_cons_zero, List.setIfInBounds_toArray, List.set_cons_zero, List.set_cons_succ]
        refine Turns.take hS 13 _ rfl (by kernel_rfl) (by kernel_rfl) (by kernel_rfl) (by kernel_rfl) (fun _ _ _ h => h) (by rfl) (fun w' hS' => by (try dsimp only at hS'); go_split_ands; go_simp; (try with_reducible rfl)) ?_
        simp only [Act.put, List.getElem_toArray, List.getElem_cons_succ, List.getElem_cons_zero, List.setIfInBounds_toArray, List.set_cons_zero, List.set_cons_succ]
        refine Turns.take hS 14 _ rfl (by kernel_rfl) (by kernel_rfl) (by kernel_rfl) (by kernel_rfl) (fun _ _ _ h => h) (by rfl) (fun w' hS' => by (try dsimp only at hS'); go_split_ands; go_simp; (try with_reducible rfl)) ?_
        simp only [Act.put, List.getElem_toArray, List.getElem_cons_succ, List.getElem_cons_zero, List.setIfInBounds_toArray, List.set_cons_zero, List.set_cons_succ]
        refine Turns.take hS 16 _ rfl (by kernel_rfl) (by kernel_rfl) (by kernel_rfl) (by kernel_rfl) (fun _ _ _ h => h) (by rfl) (fun w' hS' => by (try dsimp only at hS'); go_split_ands; go_simp; (try with_reducible rfl)) ?_
        simp only [Act.put, List.getElem_toArray, List.getElem_cons_succ, List.getElem_cons_zero, List.setIfInBounds_toArray, List.set_cons_zero, List.set_cons_succ]
        refine Turns.take hS 17 _ rfl (by kernel_rfl) (by kernel_rfl) (by kernel_rfl) (by kernel_rfl) (fun _ _ _ h => h) (by rfl) (fun w' hS' => by (try dsimp only at hS'); go_split_ands; go_simp; (try with_reducible rfl)) ?_
        simp only [Act.put, List.getElem_toArray, List.getElem_cons_succ, List.getElem_cons_zero, List.setIfInBounds_toArray, List.set_cons_zero, List.set_cons_succ]
        refine Turns.next 15 rfl (by kernel_rfl) (by rfl) (fun K hK => ?_)
        go_simp
        go_at_call 21
        refine (he _).mono ?_
        rintro e wn15 ⟨rfl, hb⟩
        replace HF := Lib.hid (hS.2.2.2.2.2.2.2.2.2.2.2.2.2.2.2.2.2.2.next hb)
        clear hb
        refine hK.out _ _ (show (fun (w' : World) => w'.cell? ⟨w.heap.size, 0, none⟩ = some (.int .i64 s0_0) ∧ w'.cell? ⟨w.heap.size, 1, none⟩ = some (.int .i64 s0_1) ∧ w'.cell? ⟨w.heap.size, 2, none⟩ = some (.int .i64 s0_2) ∧ w'.cell? ⟨w.heap.size, 3, none⟩ = some (.int .i64 s0_3) ∧ w'.cell? ⟨w.heap.size + 1, 0, none⟩ = some (.int .i64 s1_0) ∧ w'.cell? ⟨w.heap.size + 1, 1, none⟩ = some (.int .i64 s1_1) ∧ w'.cell? ⟨w.heap.size + 1, 2, none⟩ = some (.int .i64 s1_2) ∧ w'.cell? ⟨w.heap.size + 1, 3, none⟩ = some (.int .i64 s1_3) ∧ w'.cell? ⟨w.heap.size + 1 + 1, 0, none⟩ = some (.int .i64 s3_0) ∧ w'.cell? ⟨w.heap.size + 1 + 1, 1, none⟩ = some (.int .i64 s3_1) ∧ w'.cell? ⟨w.heap.size + 1 + 1, 2, none⟩ = some (.int .i64 s3_2) ∧ w'.cell? ⟨w.heap.size + 1 + 1, 3, none⟩ = some (.int .i64 s3_3) ∧ w'.cell? ⟨w.heap.size + 1 + 1, 4, none⟩ = some (.int .i64 s3_4) ∧ w'.cell? ⟨w.heap.size + 1 + 1 + 1, 0, none⟩ = some (.int .i64 s4_0) ∧ w'.cell? ⟨w.heap.size + 1 + 1 + 1, 1, none⟩ = some (.int .i64 s4_1) ∧ w'.cell? ⟨w.heap.size + 1 + 1 + 1, 2, none⟩ = some (.int .i64 s4_2) ∧ w'.cell? ⟨w.heap.size + 1 + 1 + 1, 3, none⟩ = some (.int .i64 s4_3) ∧ w'.cell? ⟨w.heap.size + 1 + 1 + 1, 4, none⟩ = some (.int .i64 s4_4) ∧ Four w 23 40 #[.int .i64 s0_0, .int .i64 s0_1, .int .i64 s0_2, .int .i64 s0_3] #[.int .i64 s1_0, .int .i64 s1_1, .int .i64 s1_2, .int .i64 s1_3] #[.int .i64 s3_0, .int .i64 s3_1, .int .i64 s3_2, .int .i64 s3_3, .int .i64 s3_4] #[.int .i64 s4_0, .int .i64 s4_1, .int .i64 s4_2, .int .i64 s4_3, .int .i64 s4_4] w') _ from HF.out.cells) ?_
        clear hK K hS
        have hS := (show (fun (w' : World) => w'.cell? ⟨w.heap.size, 0, none⟩ = some (.int .i64 s0_0) ∧ w'.cell? ⟨w.heap.size, 1, none⟩ = some (.int .i64 s0_1) ∧ w'.cell? ⟨w.heap.size, 2, none⟩ = some (.int .i64 s0_2) ∧ w'.cell? ⟨w.heap.size, 3, none⟩ = some (.int .i64 s0_3) ∧ w'.cell? ⟨w.heap.size + 1, 0, none⟩ = some (.int .i64 s1_0) ∧ w'.cell? ⟨w.heap.size + 1, 1, none⟩ = some (.int .i64 s1_1) ∧ w'.cell? ⟨w.heap.size + 1, 2, none⟩ = some (.int .i64 s1_2) ∧ w'.cell? ⟨w.heap.size + 1, 3, none⟩ = some (.int .i64 s1_3) ∧ w'.cell? ⟨w.heap.size + 1 + 1, 0, none⟩ = some (.int .i64 s3_0) ∧ w'.cell? ⟨w.heap.size + 1 + 1, 1, none⟩ = some (.int .i64 s3_1) ∧ w'.cell? ⟨w.heap.size + 1 + 1, 2, none⟩ = some (.int .i64 s3_2) ∧ w'.cell? ⟨w.heap.size + 1 + 1, 3, none⟩ = some (.int .i64 s3_3) ∧ w'.cell? ⟨w.heap.size + 1 + 1, 4, none⟩ = some (.int .i64 s3_4) ∧ w'.cell? ⟨w.heap.size + 1 + 1 + 1, 0, none⟩ = some (.int .i64 s4_0) ∧ w'.cell? ⟨w.heap.size + 1 + 1 + 1, 1, none⟩ = some (.int .i64 s4_1) ∧ w'.cell? ⟨w.heap.size + 1 + 1 + 1, 2, none⟩ = some (.int .i64 s4_2) ∧ w'.cell? ⟨w.heap.size + 1 + 1 + 1, 3, none⟩ = some (.int .i64 s4_3) ∧ w'.cell? ⟨w.heap.size + 1 + 1 + 1, 4, none⟩ = some (.int .i64 s4_4) ∧ Four w 23 40 #[.int .i64 s0_0, .int .i64 s0_1, .int .i64 s0_2, .int .i64 s0_3] #[.int .i64 s1_0, .int .i64 s1_1, .int .i64 s1_2, .int .i64 s1_3] #[.int .i64 s3_0, .int .i64 s3_1, .int .i64 s3_2, .int .i64 s3_3, .int .i64 s3_4] #[.int .i64 s4_0, .int .i64 s4_1, .int .i64 s4_2, .int .i64 s4_3, .int .i64 s4_4] w') _ from HF.out.cells)
        refine Turns.next 18 rfl (by kernel_rfl) (by rfl) (fun K hK => ?_)
        go_simp
        go_at_call 21
        refine (he' _).mono ?_
        rintro e wn18 ⟨rfl, hb⟩
        replace HF := Lib.hid (hS.2.2.2.2.2.2.2.2.2.2.2.2.2.2.2.2.2.2.next hb)
        clear hb
        refine hK.out _ _ (show (fun (w' : World) => w'.cell? ⟨w.heap.size, 0, none⟩ = some (.int .i64 s0_0) ∧ w'.cell? ⟨w.heap.size, 1, none⟩ = some (.int .i64 s0_1) ∧ w'.cell? ⟨w.heap.size, 2, none⟩ = some (.int .i64 s0_2) ∧ w'.cell? ⟨w.heap.size, 3, none⟩ = some (.int .i64 s0_3) ∧ w'.cell? ⟨w.heap.size + 1, 0, none⟩ = some (.int .i64 s1_0) ∧ w'.cell? ⟨w.heap.size + 1, 1, none⟩ = some (.int .i64 s1_1) ∧ w'.cell? ⟨w.heap.size + 1, 2, none⟩ = some (.int .i64 s1_2) ∧ w'.cell? ⟨w.heap.size + 1, 3, none⟩ = some (.int .i64 s1_3) ∧ w'.cell? ⟨w.heap.size + 1 + 1, 0, none⟩ = some (.int .i64 s3_0) ∧ w'.cell? ⟨w.heap.size + 1 + 1, 1, none⟩ = some (.int .i64 s3_1) ∧ w'.cell? ⟨w.heap.size + 1 + 1, 2, none⟩ = some (.int .i64 s3_2) ∧ w'.cell? ⟨w.heap.size + 1 + 1, 3, none⟩ = some (.int .i64 s3_3) ∧ w'.cell? ⟨w.heap.size + 1 + 1, 4, none⟩ = some (.int .i64 s3_4) ∧ w'.cell? ⟨w.heap.size + 1 + 1 + 1, 0, none⟩ = some (.int .i64 s4_0) ∧ w'.cell? ⟨w.heap.size + 1 + 1 + 1, 1, none⟩ = some (.int .i64 s4_1) ∧ w'.cell? ⟨w.heap.size + 1 + 1 + 1, 2, none⟩ = some (.int .i64 s4_2) ∧ w'.cell? ⟨w.heap.size + 1 + 1 + 1, 3, none⟩ = some (.int .i64 s4_3) ∧ w'.cell? ⟨w.heap.size + 1 + 1 + 1, 4, none⟩ = some (.int .i64 s4_4) ∧ Four w 23 40 #[.int .i64 s0_0, .int .i64 s0_1, .int .i64 s0_2, .int .i64 s0_3] #[.int .i64 s1_0, .int .i64 s1_1, .int .i64 s1_2, .int .i64 s1_3] #[.int .i64 s3_0, .int .i64 s3_1, .int .i64 s3_2, .int .i64 s3_3, .int .i64 s3_4] #[.int .i64 s4_0, .int .i64 s4_1, .int .i64 s4_2, .int .i64 s4_3, .int .i64 s4_4] w') _ from HF.out.cells) ?_
        clear hK K hS
        have hS := (show (fun (w' : World) => w'.cell? ⟨w.heap.size, 0, none⟩ = some (.int .i64 s0_0) ∧ w'.cell? ⟨w.heap.size, 1, none⟩ = some (.int .i64 s0_1) ∧ w'.cell? ⟨w.heap.size, 2, none⟩ = some (.int .i64 s0_2) ∧ w'.cell? ⟨w.heap.size, 3, none⟩ = some (.int .i64 s0_3) ∧ w'.cell? ⟨w.heap.size + 1, 0, none⟩ = some (.int .i64 s1_0) ∧ w'.cell? ⟨w.heap.size + 1, 1, none⟩ = some (.int .i64 s1_1) ∧ w'.cell? ⟨w.heap.size + 1, 2, none⟩ = some (.int .i64 s1_2) ∧ w'.cell? ⟨w.heap.size + 1, 3, none⟩ = some (.int .i64 s1_3) ∧ w'.cell? ⟨w.heap.size + 1 + 1, 0, none⟩ = some (.int .i64 s3_0) ∧ w'.cell? ⟨w.heap.size + 1 + 1, 1, none⟩ = some (.int .i64 s3_1) ∧ w'.cell? ⟨w.heap.size + 1 + 1, 2, none⟩ = some (.int .i64 s3_2) ∧ w'.cell? ⟨w.heap.size + 1 + 1, 3, none⟩ = some (.int .i64 s3_3) ∧ w'.cell? ⟨w.heap.size + 1 + 1, 4, none⟩ = some (.int .i64 s3_4) ∧ w'.cell? ⟨w.heap.size + 1 + 1 + 1, 0, none⟩ = some (.int .i64 s4_0) ∧ w'.cell? ⟨w.heap.size + 1 + 1 + 1, 1, none⟩ = some (.int .i64 s4_1) ∧ w'.cell? ⟨w.heap.size + 1 + 1 + 1, 2, none⟩ = some (.int .i64 s4_2) ∧ w'.cell? ⟨w.heap.size + 1 + 1 + 1, 3, none⟩ = some (.int .i64 s4_3) ∧ w'.cell? ⟨w.heap.size + 1 + 1 + 1, 4, none⟩ = some (.int .i64 s4_4) ∧ Four w 23 40 #[.int .i64 s0_0, .int .i64 s0_1, .int .i64 s0_2, .int .i64 s0_3] #[.int .i64 s1_0, .int .i64 s1_1, .int .i64 s1_2, .int .i64 s1_3] #[.int .i64 s3_0, .int .i64 s3_1, .int .i64 s3_2, .int .i64 s3_3, .int .i64 s3_4] #[.int .i64 s4_0, .int .i64 s4_1, .int .i64 s4_2, .int .i64 s4_3, .int .i64 s4_4] w') _ from HF.out.cells)
        refine Turns.take hS 19 _ rfl (by kernel_rfl) (by kernel_rfl) (by kernel_rfl) (by kernel_rfl) (fun _ _ _ h => h) (by rfl) (fun w' hS' => by (try dsimp only at hS'); go_split_ands; go_simp; (try with_reducible rfl)) ?_
        simp only [Act.put, List.getElem_toArray, List.getElem_cons_succ, List.getElem_cons_zero, List.setIfInBounds_toArray, List.set_cons_zero, List.set_cons_succ]
        refine Turns.take hS 20 _ rfl (by kernel_rfl) (by kernel_rfl) (by kernel_rfl) (by kernel_rfl) (fun _ _ _ h => h) (by rfl) (fun w' hS' => by (try dsimp only at hS'); go_split_ands; go_simp; (try with_reducible rfl)) ?_
        simp only [Act.put, List.getElem_toArray, List.getElem_cons_succ, List.getElem_cons_zero, List.setIfInBounds_toArray, List.set_cons_zero, List.set_cons_succ]
        refine Turns.take hS 21 _ rfl (by kernel_rfl) (by kernel_rfl) (by kernel_rfl) (by kernel_rfl) (fun _ _ _ h => h) (by rfl) (fun w' hS' => by (try dsimp only at hS'); go_split_ands; go_simp; (try with_reducible rfl)) ?_
        simp only [Act.put, List.getElem_toArray, List.getElem_cons_succ, List.getElem_cons_zero, List.setIfInBounds_toArray, List.set_cons_zero, List.set_cons_succ]
        refine Turns.take hS 22 _ rfl (by kernel_rfl) (by kernel_rfl) (by kernel_rfl) (by kernel_rfl) (fun _ _ _ h => h) (by rfl) (fun w' hS' => by (try dsimp only at hS'); go_split_ands; go_simp; (try with_reducible rfl)) ?_
        simp only [Act.put, List.getElem_toArray, List.getElem_cons_succ, List.getElem_cons_zero, List.setIfInBounds_toArray, List.set_cons_zero, List.set_cons_succ]
        refine Turns.take hS 23 _ rfl (by kernel_rfl) (by kernel_rfl) (by kernel_rfl) (by kernel_rfl) (fun _ _ _ h => h) (by rfl) (fun w' hS' => by (try dsimp only at hS'); go_split_ands; go_simp; (try with_reducible rfl)) ?_
        simp only [Act.put, List.getElem_toArray, List.getElem_cons_succ, List.getElem_cons_zero, List.setIfInBounds_toArray, List.set_cons_zero, List.set_cons_succ]
        refine Turns.take hS 24 _ rfl (by kernel_rfl) (by kernel_rfl) (by kernel_rfl) (by kernel_rfl) (fun _ _ _ h => h) (by rfl) (fun w' hS' => by (try dsimp only at hS'); go_split_ands; go_simp; (try with_reducible rfl)) ?_
        simp only [Act.put, List.getElem_toArray, List.getElem_cons_succ, List.getElem_cons_zero, List.setIfInBounds_toArray, List.set_cons_zero, List.set_cons_succ]
        refine Turns.take hS 25 _ rfl (by kernel_rfl) (by kernel_rfl) (by kernel_rfl) (by kernel_rfl) (fun _ _ _ h => h) (by rfl) (fun w' hS' => by (try dsimp only at hS'); go_split_ands; go_simp; (try with_reducible rfl)) ?_
        simp only [Act.put, List.getElem_toArray, List.getElem_cons_succ, List.getElem_cons_zero, List.setIfInBounds_toArray, List.set_cons_zero, List.set_cons_succ]
        refine Turns.take hS 26 _ rfl (by kernel_rfl) (by kernel_rfl) (by kernel_rfl) (by kernel_rfl) (fun _ _ _ h => h) (by rfl) (fun w' hS' => by (try dsimp only at hS'); go_split_ands; go_simp; (try with_reducible rfl)) ?_
        simp only [Act.put, List.getElem_toArray, List.getElem_cons_succ, List.getElem_cons_zero, List.setIfInBounds_toArray, List.set_cons_zero, List.set_cons_succ]
        refine Turns.take hS 27 _ rfl (by kernel_rfl) (by kernel_rfl) (by kernel_rfl) (by kernel_rfl) (fun _ _ _ h => h) (by rfl) (fun w' hS' => by (try dsimp only at hS'); go_split_ands; go_simp; (try with_reducible rfl)) ?_
        simp only [Act.put, List.getElem_toArray, List.getElem_cons_succ, List.getElem_cons_zero, List.setIfInBounds_toArray, List.set_cons_zero, List.set_cons_succ]
        refine Turns.take hS 28 _ rfl (by kernel_rfl) (by kernel_rfl) (by kernel_rfl) (by kernel_rfl) (fun _ _ _ h => h) (by rfl) (fun w' hS' => by (try dsimp only at hS'); go_split_ands; go_simp; (try with_reducible rfl)) ?_
        simp only [Act.put, List.getElem_toArray, List.getElem_cons_succ, List.getElem_cons_zero, List.setIfInBounds_toArray, List.set_cons_zero, List.set_cons_succ]
        refine Turns.skip hS 29 rfl (by kernel_rfl) (by kernel_rfl) (by kernel_rfl) (by kernel_rfl) (fun _ _ _ h => h) (by rfl) ?_
        simp only [Act.put, List.getElem_toArray, List.getElem_cons_succ, List.getElem_cons_zero, List.setIfInBounds_toArray, List.set_cons_zero, List.set_cons_succ]
        refine Turns.skip hS 30 rfl (by kernel_rfl) (by kernel_rfl) (by kernel_rfl) (by kernel_rfl) (fun _ _ _ h => h) (by rfl) ?_
        simp only [Act.put, List.getElem_toArray, List.getElem_cons_succ, List.getElem_cons_zero, List.setIfInBounds_toArray, List.set_cons_zero, List.set_cons_succ]
        refine Turns.skip hS 31 rfl (by kernel_rfl) (by kernel_rfl) (by kernel_rfl) (by kernel_rfl) (fun _ _ _ h => h) (by rfl) ?_
        simp only [Act.put, List.getElem_toArray, List.getElem_cons_succ, List.getElem_cons_zero, List.setIfInBounds_toArray, List.set_cons_zero, List.set_cons_succ]
        refine Turns.skip hS 32 rfl (by kernel_rfl) (by kernel_rfl) (by kernel_rfl) (by kernel_rfl) (fun _ _ _ h => h) (by rfl) ?_
        simp only [Act.put, List.getElem_toArray, List.getElem_cons_succ, List.getElem_cons_zero, List.setIfInBounds_toArray, List.set_cons_zero, List.set_cons_succ]
        refine Turns.skip hS 33 rfl (by kernel_rfl) (by kernel_rfl) (by kernel_rfl) (by kernel_rfl) (fun _ _ _ h => h) (by rfl) ?_
        simp only [Act.put, List.getElem_toArray, List.getElem_cons_succ, List.getElem_cons_zero, List.setIfInBounds_toArray, List.set_cons_zero, List.set_cons_succ]
        refine Turns.skip hS 34 rfl (by kernel_rfl) (by kernel_rfl) (by kernel_rfl) (by kernel_rfl) (fun _ _ _ h => h) (by rfl) ?_
        simp only [Act.put, List.getElem_toArray, List.getElem_cons_succ, List.getElem_cons_zero, List.setIfInBounds_toArray, List.set_cons_zero, List.set_cons_succ]
        refine Turns.skip hS 35 rfl (by kernel_rfl) (by kernel_rfl) (by kernel_rfl) (by kernel_rfl) (fun _ _ _ h => h) (by rfl) ?_
        simp only [Act.put, List.getElem_toArray, List.getElem_cons_succ, List.getElem_cons_zero, List.setIfInBounds_toArray, List.set_cons_zero, List.set_cons_succ]
        refine Turns.skip hS 36 rfl (by kernel_rfl) (by kernel_rfl) (by kernel_rfl) (by kernel_rfl) (fun _ _ _ h => h) (by rfl) ?_
        simp only [Act.put, List.getElem_toArray, List.getElem_cons_succ, List.getElem_cons_zero, List.setIfInBounds_toArray, List.set_cons_zero, List.set_cons_succ]
        refine Turns.take hS 37 _ rfl (by kernel_rfl) (by kernel_rfl) (by kernel_rfl) (by kernel_rfl) (fun _ _ _ h => h) (by rfl) (fun w' hS' => by (try dsimp only at hS'); go_split_ands; go_simp; (try with_reducible rfl)) ?_
        simp only [Act.put, List.getElem_toArray, List.getElem_cons_succ, List.getElem_cons_zero, List.setIfInBounds_toArray, List.set_cons_zero, List.set_cons_succ]
        refine Turns.take hS 38 _ rfl (by kernel_rfl) (by kernel_rfl) (by kernel_rfl) (by kernel_rfl) (fun _ _ _ h => h) (by rfl) (fun w' hS' => by (try dsimp only at hS'); go_split_ands; go_simp; (try with_reducible rfl)) ?_
        simp only [Act.put, List.getElem_toArray, List.getElem_cons_succ, List.getElem_cons_zero, List.setIfInBounds_toArray, List.set_cons_zero, List.set_cons_succ]
        refine Turns.rest (late_done (by kernel_rfl)) ?_
        refine any_tail 39 (by rfl) (by kernel_rfl) ?_
        simp only [List.drop_succ_cons, List.drop_zero]
        clear hS
        go_wp2
        go_meet
        case rel => exact HF.out
      have p1 : decide (a2 < 63) = true := decide_eq_true a1
      have m5 := m4 a0 a1
      have d4 : decide (G < E) = false := decide_eq_false (by omega)
      have qw : IntKind.i64.wrap (a2 + 1) = a2 + 1 := IntWalk.i64_in _ (by omega)
      clear m4
      go_upto_region 4 with (fail)
      refine region_turns (fun (w' : World) => w'.cell? ⟨w.heap.size, 0, none⟩ = some (.int .i64 s0_0) ∧ w'.cell? ⟨w.heap.size, 1, none⟩ = some (.int .i64 s0_1) ∧ w'.cell? ⟨w.heap.size, 2, none⟩ = some (.int .i64 s0_2) ∧ w'.cell? ⟨w.heap.size, 3, none⟩ = some (.int .i64 s0_3) ∧ w'.cell? ⟨w.heap.size + 1, 0, none⟩ = some (.int .i64 s1_0) ∧ w'.cell? ⟨w.heap.size + 1, 1, none⟩ = some (.int .i64 s1_1) ∧ w'.cell? ⟨w.heap.size + 1, 2, none⟩ = some (.int .i64 s1_2) ∧ w'.cell? ⟨w.heap.size + 1, 3, none⟩ = some (.int .i64 s1_3) ∧ w'.cell? ⟨w.heap.size + 1 + 1, 0, none⟩ = some (.int .i64 s3_0) ∧ w'.cell? ⟨w.heap.size + 1 + 1, 1, none⟩ = some (.int .i64 s3_1) ∧ w'.cell? ⟨w.heap.size + 1 + 1, 2, none⟩ = some (.int .i64 s3_2) ∧ w'.cell? ⟨w.heap.size + 1 + 1, 3, none⟩ = some (.int .i64 s3_3) ∧ w'.cell? ⟨w.heap.size + 1 + 1, 4, none⟩ = some (.int .i64 s3_4) ∧ w'.cell? ⟨w.heap.size + 1 + 1 + 1, 0, none⟩ = some (.int .i64 s4_0) ∧ w'.cell? ⟨w.heap.size + 1 + 1 + 1, 1, none⟩ = some (.int .i64 s4_1) ∧ w'.cell? ⟨w.heap.size + 1 + 1 + 1, 2, none⟩ = some (.int .i64 s4_2) ∧ w'.cell? ⟨w.heap.size + 1 + 1 + 1, 3, none⟩ = some (.int .i64 s4_3) ∧ w'.cell? ⟨w.heap.size + 1 + 1 + 1, 4, none⟩ = some (.int .i64 s4_4) ∧ Four w 23 40 #[.int .i64 s0_0, .int .i64 s0_1, .int .i64 s0_2, .int .i64 s0_3] #[.int .i64 s1_0, .int .i64 s1_1, .int .i64 s1_2, .int .i64 s1_3] #[.int .i64 s3_0, .int .i64 s3_1, .int .i64 s3_2, .int .i64 s3_3, .int .i64 s3_4] #[.int .i64 s4_0, .int .i64 s4_1, .int .i64 s4_2, .int .i64 s4_3, .int .i64 s4_4] w') (fun j => decide (39 ≤ j)) (by kernel_rfl) (HF.out.drew.cells) (fun hS => ?_)
      refine Turns.take hS 0 _ rfl (by kernel_rfl) (by kernel_rfl) (by kernel_rfl) (by kernel_rfl) (fun _ _ _ h => h) (by rfl) (fun w' hS' => by (try dsimp only at hS'); go_split_ands; go_simp; (try with_reducible rfl)) ?_
      simp only [Act.put, List.getElem_toArray, List.getElem_cons_succ, List.getElem_cons_zero, List.setIfInBounds_toArray, List.set_cons_zero, List.set_cons_succ]
      refine Turns.take hS 2 _ rfl (by kernel_rfl) (by kernel_rfl) (by kernel_rfl) (by kernel_rfl) (fun _ _ _ h => h) (by rfl) (fun w' hS' => by (try dsimp only at hS'); go_split_ands; go_simp; (try with_reducible rfl)) ?_
      simp only [Act.put, List.getElem_toArray, List.getElem_cons_succ, List.getElem_cons_zero, List.setIfInBounds_toArray, List.set_cons_zero, List.set_cons_succ]
      refine Turns.next 1 rfl (by kernel_rfl) (by rfl) (fun K hK => ?_)
      go_simp
      go_at_call 17
      refine (hh _).mono ?_
      rintro e wn1 ⟨rfl, hb⟩
      replace HF := Lib.hid (hS.2.2.2.2.2.2.2.2.2.2.2.2.2.2.2.2.2.2.next hb)
      clear hb
      refine hK.out _ _ (show (fun (w' : World) => w'.cell? ⟨w.heap.size, 0, none⟩ = some (.int .i64 s0_0) ∧ w'.cell? ⟨w.heap.size, 1, none⟩ = some (.int .i64 s0_1) ∧ w'.cell? ⟨w.heap.size, 2, none⟩ = some (.int .i64 s0_2) ∧ w'.cell? ⟨w.heap.size, 3, none⟩ = some (.int .i64 s0_3) ∧ w'.cell? ⟨w.heap.size + 1, 0, none⟩ = some (.int .i64 s1_0) ∧ w'.cell? ⟨w.heap.size + 1, 1, none⟩ = some (.int .i64 s1_1) ∧ w'.cell? ⟨w.heap.size + 1, 2, none⟩ = some (.int .i64 s1_2) ∧ w'.cell? ⟨w.heap.size + 1, 3, none⟩ = some (.int .i64 s1_3) ∧ w'.cell? ⟨w.heap.size + 1 + 1, 0, none⟩ = some (.int .i64 s3_0) ∧ w'.cell? ⟨w.heap.size + 1 + 1, 1, none⟩ = some (.int .i64 s3_1) ∧ w'.cell? ⟨w.heap.size + 1 + 1, 2, none⟩ = some (.int .i64 s3_2) ∧ w'.cell? ⟨w.heap.size + 1 + 1, 3, none⟩ = some (.int .i64 s3_3) ∧ w'.cell? ⟨w.heap.size + 1 + 1, 4, none⟩ = some (.int .i64 s3_4) ∧ w'.cell? ⟨w.heap.size + 1 + 1 + 1, 0, none⟩ = some (.int .i64 s4_0) ∧ w'.cell? ⟨w.heap.size + 1 + 1 + 1, 1, none⟩ = some (.int .i64 s4_1) ∧ w'.cell? ⟨w.heap.size + 1 + 1 + 1, 2, none⟩ = some (.int .i64 s4_2) ∧ w'.cell? ⟨w.heap.size + 1 + 1 + 1, 3, none⟩ = some (.int .i64 s4_3) ∧ w'.cell? ⟨w.heap.size + 1 + 1 + 1, 4, none⟩ = some (.int .i64 s4_4) ∧ Four w 23 40 #[.int .i64 s0_0, .int .i64 s0_1, .int .i64 s0_2, .int .i64 s0_3] #[.int .i64 s1_0, .int .i64 s1_1, .int .i64 s1_2, .int .i64 s1_3] #[.int .i64 s3_0, .int .i64 s3_1, .int .i64 s3_2, .int .i64 s3_3, .int .i64 s3_4] #[.int .i64 s4_0, .int .i64 s4_1, .int .i64 s4_2, .int .i64 s4_3, .int .i64 s4_4] w') _ from HF.out.cells) ?_
      clear hK K hS
      have hS := (show (fun (w' : World) => w'.cell? ⟨w.heap.size, 0, none⟩ = some (.int .i64 s0_0) ∧ w'.cell? ⟨w.heap.size, 1, none⟩ = some (.int .i64 s0_1) ∧ w'.cell? ⟨w.heap.size, 2, none⟩ = some (.int .i64 s0_2) ∧ w'.cell? ⟨w.heap.size, 3, none⟩ = some (.int .i64 s0_3) ∧ w'.cell? ⟨w.heap.size + 1, 0, none⟩ = some (.int .i64 s1_0) ∧ w'.cell? ⟨w.heap.size + 1, 1, none⟩ = some (.int .i64 s1_1) ∧ w'.cell? ⟨w.heap.size + 1, 2, none⟩ = some (.int .i64 s1_2) ∧ w'.cell? ⟨w.heap.size + 1, 3, none⟩ = some (.int .i64 s1_3) ∧ w'.cell? ⟨w.heap.size + 1 + 1, 0, none⟩ = some (.int .i64 s3_0) ∧ w'.cell? ⟨w.heap.size + 1 + 1, 1, none⟩ = some (.int .i64 s3_1) ∧ w'.cell? ⟨w.heap.size + 1 + 1, 2, none⟩ = some (.int .i64 s3_2) ∧ w'.cell? ⟨w.heap.size + 1 + 1, 3, none⟩ = some (.int .i64 s3_3) ∧ w'.cell? ⟨w.heap.size + 1 + 1, 4, none⟩ = some (.int .i64 s3_4) ∧ w'.cell? ⟨w.heap.size + 1 + 1 + 1, 0, none⟩ = some (.int .i64 s4_0) ∧ w'.cell? ⟨w.heap.size + 1 + 1 + 1, 1, none⟩ = some (.int .i64 s4_1) ∧ w'.cell? ⟨w.heap.size + 1 + 1 + 1, 2, none⟩ = some (.int .i64 s4_2) ∧ w'.cell? ⟨w.heap.size + 1 + 1 + 1, 3, none⟩ = some (.int .i64 s4_3) ∧ w'.cell? ⟨w.heap.size + 1 + 1 + 1, 4, none⟩ = some (.int .i64 s4_4) ∧ Four w 23 40 #[.int .i64 s0_0, .int .i64 s0_1, .int .i64 s0_2, .int .i64 s0_3] #[.int .i64 s1_0, .int .i64 s1_1, .int .i64 s1_2, .int .i64 s1_3] #[.int .i64 s3_0, .int .i64 s3_1, .int .i64 s3_2, .int .i64 s3_3, .int .i64 s3_4] #[.int .i64 s4_0, .int .i64 s4_1, .int .i64 s4_2, .int .i64 s4_3, .int .i64 s4_4] w') _ from HF.out.cells)
      refine Turns.next 3 rfl (by kernel_rfl) (by rfl) (fun K hK => ?_)
      go_simp
      go_at_call 17
      refine (hh' _).mono ?_
      rintro e wn3 ⟨rfl, hb⟩
      replace HF := Lib.hid (hS.2.2.2.2.2.2.2.2.2.2.2.2.2.2.2.2.2.2.next hb)
      clear hb
      refine hK.out _ _ (show (fun (w' : World) => w'.cell? ⟨w.heap.size, 0, none⟩ = some (.int .i64 s0_0) ∧ w'.cell? ⟨w.heap.size, 1, none⟩ = some (.int .i64 s0_1) ∧ w'.cell? ⟨w.heap.size, 2, none⟩ = some (.int .i64 s0_2) ∧ w'.cell? ⟨w.heap.size, 3, none⟩ = some (.int .i64 s0_3) ∧ w'.cell? ⟨w.heap.size + 1, 0, none⟩ = some (.int .i64 s1_0) ∧ w'.cell? ⟨w.heap.size + 1, 1, none⟩ = some (.int .i64 s1_1) ∧ w'.cell? ⟨w.heap.size + 1, 2, none⟩ = some (.int .i64 s1_2) ∧ w'.cell? ⟨w.heap.size + 1, 3, none⟩ = some (.int .i64 s1_3) ∧ w'.cell? ⟨w.heap.size + 1 + 1, 0, none⟩ = some (.int .i64 s3_0) ∧ w'.cell? ⟨w.heap.size + 1 + 1, 1, none⟩ = some (.int .i64 s3_1) ∧ w'.cell? ⟨w.heap.size + 1 + 1, 2, none⟩ = some (.int .i64 s3_2) ∧ w'.cell? ⟨w.heap.size + 1 + 1, 3, none⟩ = some (.int .i64 s3_3) ∧ w'.cell? ⟨w.heap.size + 1 + 1, 4, none⟩ = some (.int .i64 s3_4) ∧ w'.cell? ⟨w.heap.size + 1 + 1 + 1, 0, none⟩ = some (.int .i64 s4_0) ∧ w'.cell? ⟨w.heap.size + 1 + 1 + 1, 1, none⟩ = some (.int .i64 s4_1) ∧ w'.cell? ⟨w.heap.size + 1 + 1 + 1, 2, none⟩ = some (.int .i64 s4_2) ∧ w'.cell? ⟨w.heap.size + 1 + 1 + 1, 3, none⟩ = some (.int .i64 s4_3) ∧ w'.cell? ⟨w.heap.size + 1 + 1 + 1, 4, none⟩ = some (.int .i64 s4_4) ∧ Four w 23 40 #[.int .i64 s0_0, .int .i64 s0_1, .int .i64 s0_2, .int .i64 s0_3] #[.int .i64 s1_0, .int .i64 s1_1, .int .i64 s1_2, .int .i64 s1_3] #[.int .i64 s3_0, .int .i64 s3_1, .int .i64 s3_2, .int .i64 s3_3, .int .i64 s3_4] #[.int .i64 s4_0, .int .i64 s4_1, .int .i64 s4_2, .int .i64 s4_3, .int .i64 s4_4] w') _ from HF.out.cells) ?_
      clear hK K hS
      have hS := (show (fun (w' : World) => w'.cell? ⟨w.heap.size, 0, none⟩ = some (.int .i64 s0_0) ∧ w'.cell? ⟨w.heap.size, 1, none⟩ = some (.int .i64 s0_1) ∧ w'.cell? ⟨w.heap.size, 2, none⟩ = some (.int .i64 s0_2) ∧ w'.cell? ⟨w.heap.size, 3, none⟩ = some (.int .i64 s0_3) ∧ w'.cell? ⟨w.heap.size + 1, 0, none⟩ = some (.int .i64 s1_0) ∧ w'.cell? ⟨w.heap.size + 1, 1, none⟩ = some (.int .i64 s1_1) ∧ w'.cell? ⟨w.heap.size + 1, 2, none⟩ = some (.int .i64 s1_2) ∧ w'.cell? ⟨w.heap.size + 1, 3, none⟩ = some (.int .i64 s1_3) ∧ w'.cell? ⟨w.heap.size + 1 + 1, 0, none⟩ = some (.int .i64 s3_0) ∧ w'.cell? ⟨w.heap.size + 1 + 1, 1, none⟩ = some (.int .i64 s3_1) ∧ w'.cell? ⟨w.heap.size + 1 + 1, 2, none⟩ = some (.int .i64 s3_2) ∧ w'.cell? ⟨w.heap.size + 1 + 1, 3, none⟩ = some (.int .i64 s3_3) ∧ w'.cell? ⟨w.heap.size + 1 + 1, 4, none⟩ = some (.int .i64 s3_4) ∧ w'.cell? ⟨w.heap.size + 1 + 1 + 1, 0, none⟩ = some (.int .i64 s4_0) ∧ w'.cell? ⟨w.heap.size + 1 + 1 + 1, 1, none⟩ = some (.int .i64 s4_1) ∧ w'.cell? ⟨w.heap.size + 1 + 1 + 1, 2, none⟩ = some (.int .i64 s4_2) ∧ w'.cell? ⟨w.heap.size + 1 + 1 + 1, 3, none⟩ = some (.int .i64 s4_3) ∧ w'.cell? ⟨w.heap.size + 1 + 1 + 1, 4, none⟩ = some (.int .i64 s4_4) ∧ Four w 23 40 #[.int .i64 s0_0, .int .i64 s0_1, .int .i64 s0_2, .int .i64 s0_3] #[.int .i64 s1_0, .int .i64 s1_1, .int .i64 s1_2, .int .i64 s1_3] #[.int .i64 s3_0, .int .i64 s3_1, .int .i64 s3_2, .int .i64 s3_3, .int .i64 s3_4] #[.int .i64 s4_0, .int .i64 s4_1, .int .i64 s4_2, .int .i64 s4_3, .int .i64 s4_4] w') _ from HF.out.cells)
      refine Turns.take hS 4 _ rfl (by kernel_rfl) (by kernel_rfl) (by kernel_rfl) (by kernel_rfl) (fun _ _ _ h => h) (by rfl) (fun w' hS' => by (try dsimp only at hS'); go_split_ands; go_simp; (try with_reducible rfl)) ?_
      simp only [Act.put, List.getElem_toArray, List.getElem_cons_succ, List.getElem_cons_zero, List.setIfInBounds_toArray, List.set_cons_zero, List.set_cons_succ]
      refine Turns.take hS 5 _ rfl (by kernel_rfl) (by kernel_rfl) (by kernel_rfl) (by kernel_rfl) (fun _ _ _ h => h) (by rfl) (fun w' hS' => by (try dsimp only at hS'); go_split_ands; go_simp; (try with_reducible rfl)) ?_
      simp only [Act.put, List.getElem_toArray, List.getElem_cons_succ, List.getElem_cons_zero, List.setIfInBounds_toArray, List.set_cons_zero, List.set_cons_succ]
      refine Turns.take hS 6 _ rfl (by kernel_rfl) (by kernel_rfl) (by kernel_rfl) (by kernel_rfl) (fun _ _ _ h => h) (by rfl) (fun w' hS' => by (try dsimp only at hS'); go_split_ands; go_simp; (try with_reducible rfl)) ?_
      simp only [Act.put, List.getElem_toArray, List.getElem_cons_succ, List.getElem_cons_zero, List.setIfInBounds_toArray, List.set_cons_zero, List.set_cons_succ]
      refine Turns.take hS 8 _ rfl (by kernel_rfl) (by kernel_rfl) (by kernel_rfl) (by kernel_rfl) (fun _ _ _ h => h) (by rfl) (fun w' hS' => by (try dsimp only at hS'); go_split_ands; go_simp; (try with_reducible rfl)) ?_
      simp only [Act.put, List.getElem_toArray, List.getElem_cons_succ, List.getElem_cons_zero, List.setIfInBounds_toArray, List.set_cons_zero, List.set_cons_succ]
      refine Turns.next 7 rfl (by kernel_rfl) (by rfl) (fun K hK => ?_)
      go_simp
      go_at_call 19
      refine (hr _).mono ?_
      rintro e wn7 ⟨rfl, hb⟩
      replace HF := Lib.hid (hS.2.2.2.2.2.2.2.2.2.2.2.2.2.2.2.2.2.2.next hb)
      clear hb
      refine hK.out _ _ (show (fun (w' : World) => w'.cell? ⟨w.heap.size, 0, none⟩ = some (.int .i64 s0_0) ∧ w'.cell? ⟨w.heap.size, 1, none⟩ = some (.int .i64 s0_1) ∧ w'.cell? ⟨w.heap.size, 2, none⟩ = some (.int .i64 s0_2) ∧ w'.cell? ⟨w.heap.size, 3, none⟩ = some (.int .i64 s0_3) ∧ w'.cell? ⟨w.heap.size + 1, 0, none⟩ = some (.int .i64 s1_0) ∧ w'.cell? ⟨w.heap.size + 1, 1, none⟩ = some (.int .i64 s1_1) ∧ w'.cell? ⟨w.heap.size + 1, 2, none⟩ = some (.int .i64 s1_2) ∧ w'.cell? ⟨w.heap.size + 1, 3, none⟩ = some (.int .i64 s1_3) ∧ w'.cell? ⟨w.heap.size + 1 + 1, 0, none⟩ = some (.int .i64 s3_0) ∧ w'.cell? ⟨w.heap.size + 1 + 1, 1, none⟩ = some (.int .i64 s3_1) ∧ w'.cell? ⟨w.heap.size + 1 + 1, 2, none⟩ = some (.int .i64 s3_2) ∧ w'.cell? ⟨w.heap.size + 1 + 1, 3, none⟩ = some (.int .i64 s3_3) ∧ w'.cell? ⟨w.heap.size + 1 + 1, 4, none⟩ = some (.int .i64 s3_4) ∧ w'.cell? ⟨w.heap.size + 1 + 1 + 1, 0, none⟩ = some (.int .i64 s4_0) ∧ w'.cell? ⟨w.heap.size + 1 + 1 + 1, 1, none⟩ = some (.int .i64 s4_1) ∧ w'.cell? ⟨w.heap.size + 1 + 1 + 1, 2, none⟩ = some (.int .i64 s4_2) ∧ w'.cell? ⟨w.heap.size + 1 + 1 + 1, 3, none⟩ = some (.int .i64 s4_3) ∧ w'.cell? ⟨w.heap.size + 1 + 1 + 1, 4, none⟩ = some (.int .i64 s4_4) ∧ Four w 23 40 #[.int .i64 s0_0, .int .i64 s0_1, .int .i64 s0_2, .int .i64 s0_3] #[.int .i64 s1_0, .int .i64 s1_1, .int .i64 s1_2, .int .i64 s1_3] #[.int .i64 s3_0, .int .i64 s3_1, .int .i64 s3_2, .int .i64 s3_3, .int .i64 s3_4] #[.int .i64 s4_0, .int .i64 s4_1, .int .i64 s4_2, .int .i64 s4_3, .int .i64 s4_4] w') _ from HF.out.cells) ?_
      clear hK K hS
      have hS := (show (fun (w' : World) => w'.cell? ⟨w.heap.size, 0, none⟩ = some (.int .i64 s0_0) ∧ w'.cell? ⟨w.heap.size, 1, none⟩ = some (.int .i64 s0_1) ∧ w'.cell? ⟨w.heap.size, 2, none⟩ = some (.int .i64 s0_2) ∧ w'.cell? ⟨w.heap.size, 3, none⟩ = some (.int .i64 s0_3) ∧ w'.cell? ⟨w.heap.size + 1, 0, none⟩ = some (.int .i64 s1_0) ∧ w'.cell? ⟨w.heap.size + 1, 1, none⟩ = some (.int .i64 s1_1) ∧ w'.cell? ⟨w.heap.size + 1, 2, none⟩ = some (.int .i64 s1_2) ∧ w'.cell? ⟨w.heap.size + 1, 3, none⟩ = some (.int .i64 s1_3) ∧ w'.cell? ⟨w.heap.size + 1 + 1, 0, none⟩ = some (.int .i64 s3_0) ∧ w'.cell? ⟨w.heap.size + 1 + 1, 1, none⟩ = some (.int .i64 s3_1) ∧ w'.cell? ⟨w.heap.size + 1 + 1, 2, none⟩ = some (.int .i64 s3_2) ∧ w'.cell? ⟨w.heap.size + 1 + 1, 3, none⟩ = some (.int .i64 s3_3) ∧ w'.cell? ⟨w.heap.size + 1 + 1, 4, none⟩ = some (.int .i64 s3_4) ∧ w'.cell? ⟨w.heap.size + 1 + 1 + 1, 0, none⟩ = some (.int .i64 s4_0) ∧ w'.cell? ⟨w.heap.size + 1 + 1 + 1, 1, none⟩ = some (.int .i64 s4_1) ∧ w'.cell? ⟨w.heap.size + 1 + 1 + 1, 2, none⟩ = some (.int .i64 s4_2) ∧ w'.cell? ⟨w.heap.size + 1 + 1 + 1, 3, none⟩ = some (.int .i64 s4_3) ∧ w'.cell? ⟨w.heap.size + 1 + 1 + 1, 4, none⟩ = some (.int .i64 s4_4) ∧ Four w 23 40 #[.int .i64 s0_0, .int .i64 s0_1, .int .i64 s0_2, .int .i64 s0_3] #[.int .i64 s1_0, .int .i64 s1_1, .int .i64 s1_2, .int .i64 s1_3] #[.int .i64 s3_0, .int .i64 s3_1, .int .i64 s3_2, .int .i64 s3_3, .int .i64 s3_4] #[.int .i64 s4_0, .int .i64 s4_1, .int .i64 s4_2, .int .i64 s4_3, .int .i64 s4_4] w') _ from HF.out.cells)
      refine Turns.next 9 rfl (by kernel_rfl) (by rfl) (fun K hK => ?_)
      go_simp
      go_at_call 19
      refine (hr' _).mono ?_
      rintro e wn9 ⟨rfl, hb⟩
      replace HF := Lib.hid (hS.2.2.2.2.2.2.2.2.2.2.2.2.2.2.2.2.2.2.next hb)
      clear hb
      refine hK.out _ _ (show (fun (w' : World) => w'.cell? ⟨w.heap.size, 0, none⟩ = some (.int .i64 s0_0) ∧ w'.cell? ⟨w.heap.size, 1, none⟩ = some (.int .i64 s0_1) ∧ w'.cell? ⟨w.heap.size, 2, none⟩ = some (.int .i64 s0_2) ∧ w'.cell? ⟨w.heap.size, 3, none⟩ = some (.int .i64 s0_3) ∧ w'.cell? ⟨w.heap.size + 1, 0, none⟩ = some (.int .i64 s1_0) ∧ w'.cell? ⟨w.heap.size + 1, 1, none⟩ = some (.int .i64 s1_1) ∧ w'.cell? ⟨w.heap.size + 1, 2, none⟩ = some (.int .i64 s1_2) ∧ w'.cell? ⟨w.heap.size + 1, 3, none⟩ = some (.int .i64 s1_3) ∧ w'.cell? ⟨w.heap.size + 1 + 1, 0, none⟩ = some (.int .i64 s3_0) ∧ w'.cell? ⟨w.heap.size + 1 + 1, 1, none⟩ = some (.int .i64 s3_1) ∧ w'.cell? ⟨w.heap.size + 1 + 1, 2, none⟩ = some (.int .i64 s3_2) ∧ w'.cell? ⟨w.heap.size + 1 + 1, 3, none⟩ = some (.int .i64 s3_3) ∧ w'.cell? ⟨w.heap.size + 1 + 1, 4, none⟩ = some (.int .i64 s3_4) ∧ w'.cell? ⟨w.heap.size + 1 + 1 + 1, 0, none⟩ = some (.int .i64 s4_0) ∧ w'.cell? ⟨w.heap.size + 1 + 1 + 1, 1, none⟩ = some (.int .i64 s4_1) ∧ w'.cell? ⟨w.heap.size + 1 + 1 + 1, 2, none⟩ = some (.int .i64 s4_2) ∧ w'.cell? ⟨w.heap.size + 1 + 1 + 1, 3, none⟩ = some (.int .i64 s4_3) ∧ w'.cell? ⟨w.heap.size + 1 + 1 + 1, 4, none⟩ = some (.int .i64 s4_4) ∧ Four w 23 40 #[.int .i64 s0_0, .int .i64 s0_1, .int .i64 s0_2, .int .i64 s0_3] #[.int .i64 s1_0, .int .i64 s1_1, .int .i64 s1_2, .int .i64 s1_3] #[.int .i64 s3_0, .int .i64 s3_1, .int .i64 s3_2, .int .i64 s3_3, .int .i64 s3_4] #[.int .i64 s4_0, .int .i64 s4_1, .int .i64 s4_2, .int .i64 s4_3, .int .i64 s4_4] w') _ from HF.out.cells) ?_
      clear hK K hS
      have hS := (show (fun (w' : World) => w'.cell? ⟨w.heap.size, 0, none⟩ = some (.int .i64 s0_0) ∧ w'.cell? ⟨w.heap.size, 1, none⟩ = some (.int .i64 s0_1) ∧ w'.cell? ⟨w.heap.size, 2, none⟩ = some (.int .i64 s0_2) ∧ w'.cell? ⟨w.heap.size, 3, none⟩ = some (.int .i64 s0_3) ∧ w'.cell? ⟨w.heap.size + 1, 0, none⟩ = some (.int .i64 s1_0) ∧ w'.cell? ⟨w.heap.size + 1, 1, none⟩ = some (.int .i64 s1_1) ∧ w'.cell? ⟨w.heap.size + 1, 2, none⟩ = some (.int .i64 s1_2) ∧ w'.cell? ⟨w.heap.size + 1, 3, none⟩ = some (.int .i64 s1_3) ∧ w'.cell? ⟨w.heap.size + 1 + 1, 0, none⟩ = some (.int .i64 s3_0) ∧ w'.cell? ⟨w.heap.size + 1 + 1, 1, none⟩ = some (.int .i64 s3_1) ∧ w'.cell? ⟨w.heap.size + 1 + 1, 2, none⟩ = some (.int .i64 s3_2) ∧ w'.cell? ⟨w.heap.size + 1 + 1, 3, none⟩ = some (.int .i64 s3_3) ∧ w'.cell? ⟨w.heap.size + 1 + 1, 4, none⟩ = some (.int .i64 s3_4) ∧ w'.cell? ⟨w.heap.size + 1 + 1 + 1, 0, none⟩ = some (.int .i64 s4_0) ∧ w'.cell? ⟨w.heap.size + 1 + 1 + 1, 1, none⟩ = some (.int .i64 s4_1) ∧ w'.cell? ⟨w.heap.size + 1 + 1 + 1, 2, none⟩ = some (.int .i64 s4_2) ∧ w'.cell? ⟨w.heap.size + 1 + 1 + 1, 3, none⟩ = some (.int .i64 s4_3) ∧ w'.cell? ⟨w.heap.size + 1 + 1 + 1, 4, none⟩ = some (.int .i64 s4_4) ∧ Four w 23 40 #[.int .i64 s0_0, .int .i64 s0_1, .int .i64 s0_2, .int .i64 s0_3] #[.int .i64 s1_0, .int .i64 s1_1, .int .i64 s1_2, .int .i64 s1_3] #[.int .i64 s3_0, .int .i64 s3_1, .int .i64 s3_2, .int .i64 s3_3, .int .i64 s3_4] #[.int .i64 s4_0, .int .i64 s4_1, .int .i64 s4_2, .int .i64 s4_3, .int .i64 s4_4] w') _ from HF.out.cells)
      refine Turns.take hS 10 _ rfl (by kernel_rfl) (by kernel_rfl) (by kernel_rfl) (by kernel_rfl) (fun _ _ _ h => h) (by rfl) (fun w' hS' => by (try dsimp only at hS'); go_split_ands; go_simp; (try with_reducible rfl)) ?_
      simp only [Act.put, List.getElem_toArray, List.getElem_cons_succ, List.getElem_cons_zero, List.setIfInBounds_toArray, List.set_cons_zero, List.set_cons_succ]
      refine Turns.take hS 11 _ rfl (by kernel_rfl) (by kernel_rfl) (by kernel_rfl) (by kernel_rfl) (fun _ _ _ h => h) (by rfl) (fun w' hS' => by (try dsimp only at hS'); go_split_ands; go_simp; (try with_reducible rfl)) ?_
      simp only [Act.put, List.getElem_toArray, List.getElem_cons_succ, List.getElem_cons_zero, List.setIfInBounds_toArray, List.set_cons_zero, List.set_cons_succ]
      refine Turns.take hS 12 _ rfl (by kernel_rfl) (by kernel_rfl) (by kernel_rfl) (by kernel_rfl) (fun _ _ _ h => h) (by rfl) (fun w' hS' => by (try dsimp only at hS'); go_split_ands; go_simp; (try with_reducible rfl)) ?_
      simp only [Act.put, List.getElem_toArray, List.getElem_cons_succ, List.getElem_cons_zero, List.setIfInBounds_toArray, List.set_cons_zero, List.set_cons_succ]
      refine Turns.take hS 13 _ rfl (by kernel_rfl) (by kernel_rfl) (by kernel_rfl) (by kernel_rfl) (fun _ _ _ h => h) (by rfl) (fun w' hS' => by (try dsimp only at hS'); go_split_ands; go_simp; (try with_reducible rfl)) ?_
      simp only [Act.put, List.getElem_toArray, List.getElem_cons_succ, List.getElem_cons_zero, List.setIfInBounds_toArray, List.set_cons_zero, List.set_cons_succ]
      refine Turns.take hS 14 _ rfl (by kernel_rfl) (by kernel_rfl) (by kernel_rfl) (by kernel_rfl) (fun _ _ _ h => h) (by rfl) (fun w' hS' => by (try dsimp only at hS'); go_split_ands; go_simp; (try with_reducible rfl)) ?_
      simp only [Act.put, List.getElem_toArray, List.getElem_cons_succ, List.getElem_cons_zero, List.setIfInBounds_toArray, List.set_cons_zero, List.set_cons_succ]
      refine Turns.take hS 16 _ rfl (by kernel_rfl) (by kernel_rfl) (by kernel_rfl) (by kernel_rfl) (fun _ _ _ h => h) (by rfl) (fun w' hS' => by (try dsimp only at hS'); go_split_ands; go_simp; (try with_reducible rfl)) ?_
      simp only [Act.put, List.getElem_toArray, List.getElem_cons_succ, List.getElem_cons_zero, List.setIfInBounds_toArray, List.set_cons_zero, List.set_cons_succ]
      refine Turns.take hS 17 _ rfl (by kernel_rfl) (by kernel_rfl) (by kernel_rfl) (by kernel_rfl) (fun _ _ _ h => h) (by rfl) (fun w' hS' => by (try dsimp only at hS'); go_split_ands; go_simp; (try with_reducible rfl)) ?_
      simp only [Act.put, List.getElem_toArray, List.getElem_cons_succ, List.getElem_cons_zero, List.setIfInBounds_toArray, List.set_cons_zero, List.set_cons_succ]
      refine Turns.next 15 rfl (by kernel_rfl) (by rfl) (fun K hK => ?_)
      go_simp
      go_at_call 21
      refine (he _).mono ?_
      rintro e wn15 ⟨rfl, hb⟩
      replace HF := Lib.hid (hS.2.2.2.2.2.2.2.2.2.2.2.2.2.2.2.2.2.2.next hb)
      clear hb
      refine hK.out _ _ (show (fun (w' : World) => w'.cell? ⟨w.heap.size, 0, none⟩ = some (.int .i64 s0_0) ∧ w'.cell? ⟨w.heap.size, 1, none⟩ = some (.int .i64 s0_1) ∧ w'.cell? ⟨w.heap.size, 2, none⟩ = some (.int .i64 s0_2) ∧ w'.cell? ⟨w.heap.size, 3, none⟩ = some (.int .i64 s0_3) ∧ w'.cell? ⟨w.heap.size + 1, 0, none⟩ = some (.int .i64 s1_0) ∧ w'.cell? ⟨w.heap.size + 1, 1, none⟩ = some (.int .i64 s1_1) ∧ w'.cell? ⟨w.heap.size + 1, 2, none⟩ = some (.int .i64 s1_2) ∧ w'.cell? ⟨w.heap.size + 1, 3, none⟩ = some (.int .i64 s1_3) ∧ w'.cell? ⟨w.heap.size + 1 + 1, 0, none⟩ = some (.int .i64 s3_0) ∧ w'.cell? ⟨w.heap.size + 1 + 1, 1, none⟩ = some (.int .i64 s3_1) ∧ w'.cell? ⟨w.heap.size + 1 + 1, 2, none⟩ = some (.int .i64 s3_2) ∧ w'.cell? ⟨w.heap.size + 1 + 1, 3, none⟩ = some (.int .i64 s3_3) ∧ w'.cell? ⟨w.heap.size + 1 + 1, 4, none⟩ = some (.int .i64 s3_4) ∧ w'.cell? ⟨w.heap.size + 1 + 1 + 1, 0, none⟩ = some (.int .i64 s4_0) ∧ w'.cell? ⟨w.heap.size + 1 + 1 + 1, 1, none⟩ = some (.int .i64 s4_1) ∧ w'.cell? ⟨w.heap.size + 1 + 1 + 1, 2, none⟩ = some (.int .i64 s4_2) ∧ w'.cell? ⟨w.heap.size + 1 + 1 + 1, 3, none⟩ = some (.int .i64 s4_3) ∧ w'.cell? ⟨w.heap.size + 1 + 1 + 1, 4, none⟩ = some (.int .i64 s4_4) ∧ Four w 23 40 #[.int .i64 s0_0, .int .i64 s0_1, .int .i64 s0_2, .int .i64 s0_3] #[.int .i64 s1_0, .int .i64 s1_1, .int .i64 s1_2, .int .i64 s1_3] #[.int .i64 s3_0, .int .i64 s3_1, .int .i64 s3_2, .int .i64 s3_3, .int .i64 s3_4] #[.int .i64 s4_0, .int .i64 s4_1, .int .i64 s4_2, .int .i64 s4_3, .int .i64 s4_4] w') _ from HF.out.cells) ?_
      clear hK K hS
      have hS := (show (fun (w' : World) => w'.cell? ⟨w.heap.size, 0, none⟩ = some (.int .i64 s0_0) ∧ w'.cell? ⟨w.heap.size, 1, none⟩ = some (.int .i64 s0_1) ∧ w'.cell? ⟨w.heap.size, 2, none⟩ = some (.int .i64 s0_2) ∧ w'.cell? ⟨w.heap.size, 3, none⟩ = some (.int .i64 s0_3) ∧ w'.cell? ⟨w.heap.size + 1, 0, none⟩ = some (.int .i64 s1_0) ∧ w'.cell? ⟨w.heap.size + 1, 1, none⟩ = some (.int .i64 s1_1) ∧ w'.cell? ⟨w.heap.size + 1, 2, none⟩ = some (.int .i64 s1_2) ∧ w'.cell? ⟨w.heap.size + 1, 3, none⟩ = some (.int .i64 s1_3) ∧ w'.cell? ⟨w.heap.size + 1 + 1, 0, none⟩ = some (.int .i64 s3_0) ∧ w'.cell? ⟨w.heap.size + 1 + 1, 1, none⟩ = some (.int .i64 s3_1) ∧ w'.cell? ⟨w.heap.size + 1 + 1, 2, none⟩ = some (.int .i64 s3_2) ∧ w'.cell? ⟨w.heap.size + 1 + 1, 3, none⟩ = some (.int .i64 s3_3) ∧ w'.cell? ⟨w.heap.size + 1 + 1, 4, none⟩ = some (.int .i64 s3_4) ∧ w'.cell? ⟨w.heap.size + 1 + 1 + 1, 0, none⟩ = some (.int .i64 s4_0) ∧ w'.cell? ⟨w.heap.size + 1 + 1 + 1, 1, none⟩ = some (.int .i64 s4_1) ∧ w'.cell? ⟨w.heap.size + 1 + 1 + 1, 2, none⟩ = some (.int .i64 s4_2) ∧ w'.cell? ⟨w.heap.size + 1 + 1 + 1, 3, none⟩ = some (.int .i64 s4_3) ∧ w'.cell? ⟨w.heap.size + 1 + 1 + 1, 4, none⟩ = some (.int .i64 s4_4) ∧ Four w 23 40 #[.int .i64 s0_0, .int .i64 s0_1, .int .i64 s0_2, .int .i64 s0_3] #[.int .i64 s1_0, .int .i64 s1_1, .int .i64 s1_2, .int .i64 s1_3] #[.int .i64 s3_0, .int .i64 s3_1, .int .i64 s3_2, .int .i64 s3_3, .int .i64 s3_4] #[.int .i64 s4_0, .int .i64 s4_1, .int .i64 s4_2, .int .i64 s4_3, .int .i64 s4_4] w') _ from HF.out.cells)
      refine Turns.next 18 rfl (by kernel_rfl) (by rfl) (fun K hK => ?_)
      go_simp
      go_at_call 21
      refine (he' _).mono ?_
      rintro e wn18 ⟨rfl, hb⟩
      replace HF := Lib.hid (hS.2.2.2.2.2.2.2.2.2.2.2.2.2.2.2.2.2.2.next hb)
      clear hb
      refine hK.out _ _ (show (fun (w' : World) => w'.cell? ⟨w.heap.size, 0, none⟩ = some (.int .i64 s0_0) ∧ w'.cell? ⟨w.heap.size, 1, none⟩ = some (.int .i64 s0_1) ∧ w'.cell? ⟨w.heap.size, 2, none⟩ = some (.int .i64 s0_2) ∧ w'.cell? ⟨w.heap.size, 3, none⟩ = some (.int .i64 s0_3) ∧ w'.cell? ⟨w.heap.size + 1, 0, none⟩ = some (.int .i64 s1_0) ∧ w'.cell? ⟨w.heap.size + 1, 1, none⟩ = some (.int .i64 s1_1) ∧ w'.cell? ⟨w.heap.size + 1, 2, none⟩ = some (.int .i64 s1_2) ∧ w'.cell? ⟨w.heap.size + 1, 3, none⟩ = some (.int .i64 s1_3) ∧ w'.cell? ⟨w.heap.size + 1 + 1, 0, none⟩ = some (.int .i64 s3_0) ∧ w'.cell? ⟨w.heap.size + 1 + 1, 1, none⟩ = some (.int .i64 s3_1) ∧ w'.cell? ⟨w.heap.size + 1 + 1, 2, none⟩ = some (.int .i64 s3_2) ∧ w'.cell? ⟨w.heap.size + 1 + 1, 3, none⟩ = some (.int .i64 s3_3) ∧ w'.cell? ⟨w.heap.size + 1 + 1, 4, none⟩ = some (.int .i64 s3_4) ∧ w'.cell? ⟨w.heap.size + 1 + 1 + 1, 0, none⟩ = some (.int .i64 s4_0) ∧ w'.cell? ⟨w.heap.size + 1 + 1 + 1, 1, none⟩ = some (.int .i64 s4_1) ∧ w'.cell? ⟨w.heap.size + 1 + 1 + 1, 2, none⟩ = some (.int .i64 s4_2) ∧ w'.cell? ⟨w.heap.size + 1 + 1 + 1, 3, none⟩ = some (.int .i64 s4_3) ∧ w'.cell? ⟨w.heap.size + 1 + 1 + 1, 4, none⟩ = some (.int .i64 s4_4) ∧ Four w 23 40 #[.int .i64 s0_0, .int .i64 s0_1, .int .i64 s0_2, .int .i64 s0_3] #[.int .i64 s1_0, .int .i64 s1_1, .int .i64 s1_2, .int .i64 s1_3] #[.int .i64 s3_0, .int .i64 s3_1, .int .i64 s3_2, .int .i64 s3_3, .int .i64 s3_4] #[.int .i64 s4_0, .int .i64 s4_1, .int .i64 s4_2, .int .i64 s4_3, .int .i64 s4_4] w') _ from HF.out.cells) ?_
      clear hK K hS
      have hS := (show (fun (w' : World) => w'.cell? ⟨w.heap.size, 0, none⟩ = some (.int .i64 s0_0) ∧ w'.cell? ⟨w.heap.size, 1, none⟩ = some (.int .i64 s0_1) ∧ w'.cell? ⟨w.heap.size, 2, none⟩ = some (.int .i64 s0_2) ∧ w'.cell? ⟨w.heap.size, 3, none⟩ = some (.int .i64 s0_3) ∧ w'.cell? ⟨w.heap.size + 1, 0, none⟩ = some (.int .i64 s1_0) ∧ w'.cell? ⟨w.heap.size + 1, 1, none⟩ = some (.int .i64 s1_1) ∧ w'.cell? ⟨w.heap.size + 1, 2, none⟩ = some (.int .i64 s1_2) ∧ w'.cell? ⟨w.heap.size + 1, 3, none⟩ = some (.int .i64 s1_3) ∧ w'.cell? ⟨w.heap.size + 1 + 1, 0, none⟩ = some (.int .i64 s3_0) ∧ w'.cell? ⟨w.heap.size + 1 + 1, 1, none⟩ = some (.int .i64 s3_1) ∧ w'.cell? ⟨w.heap.size + 1 + 1, 2, none⟩ = some (.int .i64 s3_2) ∧ w'.cell? ⟨w.heap.size + 1 + 1, 3, none⟩ = some (.int .i64 s3_3) ∧ w'.cell? ⟨w.heap.size + 1 + 1, 4, none⟩ = some (.int .i64 s3_4) ∧ w'.cell? ⟨w.heap.size + 1 + 1 + 1, 0, none⟩ = some (.int .i64 s4_0) ∧ w'.cell? ⟨w.heap.size + 1 + 1 + 1, 1, none⟩ = some (.int .i64 s4_1) ∧ w'.cell? ⟨w.heap.size + 1 + 1 + 1, 2, none⟩ = some (.int .i64 s4_2) ∧ w'.cell? ⟨w.heap.size + 1 + 1 + 1, 3, none⟩ = some (.int .i64 s4_3) ∧ w'.cell? ⟨w.heap.size + 1 + 1 + 1, 4, none⟩ = some (.int .i64 s4_4) ∧ Four w 23 40 #[.int .i64 s0_0, .int .i64 s0_1, .int .i64 s0_2, .int .i64 s0_3] #[.int .i64 s1_0, .int .i64 s1_1, .int .i64 s1_2, .int .i64 s1_3] #[.int .i64 s3_0, .int .i64 s3_1, .int .i64 s3_2, .int .i64 s3_3, .int .i64 s3_4] #[.int .i64 s4_0, .int .i64 s4_1, .int .i64 s4_2, .int .i64 s4_3, .int .i64 s4_4] w') _ from HF.out.cells)
      refine Turns.take hS 19 _ rfl (by kernel_rfl) (by kernel_rfl) (by kernel_rfl) (by kernel_rfl) (fun _ _ _ h => h) (by rfl) (fun w' hS' => by (try dsimp only at hS'); go_split_ands; go_simp; (try with_reducible rfl)) ?_
      simp only [Act.put, List.getElem_toArray, List.getElem_cons_succ, List.getElem_cons_zero, List.setIfInBounds_toArray, List.set_cons_zero, List.set_cons_succ]
      refine Turns.take hS 20 _ rfl (by kernel_rfl) (by kernel_rfl) (by kernel_rfl) (by kernel_rfl) (fun _ _ _ h => h) (by rfl) (fun w' hS' => by (try dsimp only at hS'); go_split_ands; go_simp; (try with_reducible rfl)) ?_
      simp only [Act.put, List.getElem_toArray, List.getElem_cons_succ, List.getElem_cons_zero, List.setIfInBounds_toArray, List.set_cons_zero, List.set_cons_succ]
      refine Turns.take hS 21 _ rfl (by kernel_rfl) (by kernel_rfl) (by kernel_rfl) (by kernel_rfl) (fun _ _ _ h => h) (by rfl) (fun w' hS' => by (try dsimp only at hS'); go_split_ands; go_simp; (try with_reducible rfl)) ?_
      simp only [Act.put, List.getElem_toArray, List.getElem_cons_succ, List.getElem_cons_zero, List.setIfInBounds_toArray, List.set_cons_zero, List.set_cons_succ]
      refine Turns.take hS 22 _ rfl (by kernel_rfl) (by kernel_rfl) (by kernel_rfl) (by kernel_rfl) (fun _ _ _ h => h) (by rfl) (fun w' hS' => by (try dsimp only at hS'); go_split_ands; go_simp; (try with_reducible rfl)) ?_
      simp only [Act.put, List.getElem_toArray, List.getElem_cons_succ, List.getElem_cons_zero, List.setIfInBounds_toArray, List.set_cons_zero, List.set_cons_succ]
      refine Turns.take hS 23 _ rfl (by kernel_rfl) (by kernel_rfl) (by kernel_rfl) (by kernel_rfl) (fun _ _ _ h => h) (by rfl) (fun w' hS' => by (try dsimp only at hS'); go_split_ands; go_simp; (try with_reducible rfl)) ?_
      simp only [Act.put, List.getElem_toArray, List.getElem_cons_succ, List.getElem_cons_zero, List.setIfInBounds_toArray, List.set_cons_zero, List.set_cons_succ]
      refine Turns.take hS 24 _ rfl (by kernel_rfl) (by kernel_rfl) (by kernel_rfl) (by kernel_rfl) (fun _ _ _ h => h) (by rfl) (fun w' hS' => by (try dsimp only at hS'); go_split_ands; go_simp; (try with_reducible rfl)) ?_
      simp only [Act.put, List.getElem_toArray, List.getElem_cons_succ, List.getElem_cons_zero, List.setIfInBounds_toArray, List.set_cons_zero, List.set_cons_succ]
      refine Turns.take hS 25 _ rfl (by kernel_rfl) (by kernel_rfl) (by kernel_rfl) (by kernel_rfl) (fun _ _ _ h => h) (by rfl) (fun w' hS' => by (try dsimp only at hS'); go_split_ands; go_simp; (try with_reducible rfl)) ?_
      simp only [Act.put, List.getElem_toArray, List.getElem_cons_succ, List.getElem_cons_zero, List.setIfInBounds_toArray, List.set_cons_zero, List.set_cons_succ]
      refine Turns.take hS 26 _ rfl (by kernel_rfl) (by kernel_rfl) (by kernel_rfl) (by kernel_rfl) (fun _ _ _ h => h) (by rfl) (fun w' hS' => by (try dsimp only at hS'); go_split_ands; go_simp; (try with_reducible rfl)) ?_
      simp only [Act.put, List.getElem_toArray, List.getElem_cons_succ, List.getElem_cons_zero, List.setIfInBounds_toArray, List.set_cons_zero, List.set_cons_succ]
      refine Turns.take hS 27 _ rfl (by kernel_rfl) (by kernel_rfl) (by kernel_rfl) (by kernel_rfl) (fun _ _ _ h => h) (by rfl) (fun w' hS' => by (try dsimp only at hS'); go_split_ands; go_simp; (try with_reducible rfl)) ?_
      simp only [Act.put, List.getElem_toArray, List.getElem_cons_succ, List.getElem_cons_zero, List.setIfInBounds_toArray, List.set_cons_zero, List.set_cons_succ]
      refine Turns.take hS 28 _ rfl (by kernel_rfl) (by kernel_rfl) (by kernel_rfl) (by kernel_rfl) (fun _ _ _ h => h) (by rfl) (fun w' hS' => by (try dsimp only at hS'); go_split_ands; go_simp; (try with_reducible rfl)) ?_
      simp only [Act.put, List.getElem_toArray, List.getElem_cons_succ, List.getElem_cons_zero, List.setIfInBounds_toArray, List.set_cons_zero, List.set_cons_succ]
      refine Turns.take hS 29 _ rfl (by kernel_rfl) (by kernel_rfl) (by kernel_rfl) (by kernel_rfl) (fun _ _ _ h => h) (by rfl) (fun w' hS' => by (try dsimp only at hS'); go_split_ands; go_simp; (try with_reducible rfl)) ?_
      simp only [Act.put, List.getElem_toArray, List.getElem_cons_succ, List.getElem_cons_zero, List.setIfInBounds_toArray, List.set_cons_zero, List.set_cons_succ]
      refine Turns.take hS 30 _ rfl (by kernel_rfl) (by kernel_rfl) (by kernel_rfl) (by kernel_rfl) (fun _ _ _ h => h) (by rfl) (fun w' hS' => by (try dsimp only at hS'); go_split_ands; go_simp; (try with_reducible rfl)) ?_
      simp only [Act.put, List.getElem_toArray, List.getElem_cons_succ, List.getElem_cons_zero, List.setIfInBounds_toArray, List.set_cons_zero, List.set_cons_succ]
      refine Turns.take hS 32 _ rfl (by kernel_rfl) (by kernel_rfl) (by kernel_rfl) (by kernel_rfl) (fun _ _ _ h => h) (by rfl) (fun w' hS' => by (try dsimp only at hS'); go_split_ands; go_simp; (try with_reducible rfl)) ?_
      simp only [Act.put, List.getElem_toArray, List.getElem_cons_succ, List.getElem_cons_zero, List.setIfInBounds_toArray, List.set_cons_zero, List.set_cons_succ]
      refine Turns.take hS 33 _ rfl (by kernel_rfl) (by kernel_rfl) (by kernel_rfl) (by kernel_rfl) (fun _ _ _ h => h) (by rfl) (fun w' hS' => by (try dsimp only at hS'); go_split_ands; go_simp; (try with_reducible rfl)) ?_
      simp only [Act.put, List.getElem_toArray, List.getElem_cons_succ, List.getElem_cons_zero, List.setIfInBounds_toArray, List.set_cons_zero, List.set_cons_succ]
      refine Turns.take hS 34 _ rfl (by kernel_rfl) (by kernel_rfl) (by kernel_rfl) (by kernel_rfl) (fun _ _ _ h => h) (by rfl) (fun w' hS' => by (try dsimp only at hS'); go_split_ands; go_simp; (try with_reducible rfl)) ?_
      simp only [Act.put, List.getElem_toArray, List.getElem_cons_succ, List.getElem_cons_zero, List.setIfInBounds_toArray, List.set_cons_zero, List.set_cons_succ]
      refine Turns.next 31 rfl (by kernel_rfl) (by rfl) (fun K hK => ?_)
      go_simp
      go_at_call 21
      refine (he _).mono ?_
      rintro e wn31 ⟨rfl, hb⟩
      replace HF := Lib.hid (hS.2.2.2.2.2.2.2.2.2.2.2.2.2.2.2.2.2.2.next hb)
      clear hb
      refine hK.out _ _ (show (fun (w' : World) => w'.cell? ⟨w.heap.size, 0, none⟩ = some (.int .i64 s0_0) ∧ w'.cell? ⟨w.heap.size, 1, none⟩ = some (.int .i64 s0_1) ∧ w'.cell? ⟨w.heap.size, 2, none⟩ = some (.int .i64 s0_2) ∧ w'.cell? ⟨w.heap.size, 3, none⟩ = some (.int .i64 s0_3) ∧ w'.cell? ⟨w.heap.size + 1, 0, none⟩ = some (.int .i64 s1_0) ∧ w'.cell? ⟨w.heap.size + 1, 1, none⟩ = some (.int .i64 s1_1) ∧ w'.cell? ⟨w.heap.size + 1, 2, none⟩ = some (.int .i64 s1_2) ∧ w'.cell? ⟨w.heap.size + 1, 3, none⟩ = some (.int .i64 s1_3) ∧ w'.cell? ⟨w.heap.size + 1 + 1, 0, none⟩ = some (.int .i64 s3_0) ∧ w'.cell? ⟨w.heap.size + 1 + 1, 1, none⟩ = some (.int .i64 s3_1) ∧ w'.cell? ⟨w.heap.size + 1 + 1, 2, none⟩ = some (.int .i64 s3_2) ∧ w'.cell? ⟨w.heap.size + 1 + 1, 3, none⟩ = some (.int .i64 s3_3) ∧ w'.cell? ⟨w.heap.size + 1 + 1, 4, none⟩ = some (.int .i64 s3_4) ∧ w'.cell? ⟨w.heap.size + 1 + 1 + 1, 0, none⟩ = some (.int .i64 s4_0) ∧ w'.cell? ⟨w.heap.size + 1 + 1 + 1, 1, none⟩ = some (.int .i64 s4_1) ∧ w'.cell? ⟨w.heap.size + 1 + 1 + 1, 2, none⟩ = some (.int .i64 s4_2) ∧ w'.cell? ⟨w.heap.size + 1 + 1 + 1, 3, none⟩ = some (.int .i64 s4_3) ∧ w'.cell? ⟨w.heap.size + 1 + 1 + 1, 4, none⟩ = some (.int .i64 s4_4) ∧ Four w 23 40 #[.int .i64 s0_0, .int .i64 s0_1, .int .i64 s0_2, .int .i64 s0_3] #[.int .i64 s1_0, .int .i64 s1_1, .int .i64 s1_2, .int .i64 s1_3] #[.int .i64 s3_0, .int .i64 s3_1, .int .i64 s3_2, .int .i64 s3_3, .int .i64 s3_4] #[.int .i64 s4_0, .int .i64 s4_1, .int .i64 s4_2, .int .i64 s4_3, .int .i64 s4_4] w') _ from HF.out.cells) ?_
      clear hK K hS
      have hS := (show (fun (w' : World) => w'.cell? ⟨w.heap.size, 0, none⟩ = some (.int .i64 s0_0) ∧ w'.cell? ⟨w.heap.size, 1, none⟩ = some (.int .i64 s0_1) ∧ w'.cell? ⟨w.heap.size, 2, none⟩ = some (.int .i64 s0_2) ∧ w'.cell? ⟨w.heap.size, 3, none⟩ = some (.int .i64 s0_3) ∧ w'.cell? ⟨w.heap.size + 1, 0, none⟩ = some (.int .i64 s1_0) ∧ w'.cell? ⟨w.heap.size + 1, 1, none⟩ = some (.int .i64 s1_1) ∧ w'.cell? ⟨w.heap.size + 1, 2, none⟩ = some (.int .i64 s1_2) ∧ w'.cell? ⟨w.heap.size + 1, 3, none⟩ = some (.int .i64 s1_3) ∧ w'.cell? ⟨w.heap.size + 1 + 1, 0, none⟩ = some (.int .i64 s3_0) ∧ w'.cell? ⟨w.heap.size + 1 + 1, 1, none⟩ = some (.int .i64 s3_1) ∧ w'.cell? ⟨w.heap.size + 1 + 1, 2, none⟩ = some (.int .i64 s3_2) ∧ w'.cell? ⟨w.heap.size + 1 + 1, 3, none⟩ = some (.int .i64 s3_3) ∧ w'.cell? ⟨w.heap.size + 1 + 1, 4, none⟩ = some (.int .i64 s3_4) ∧ w'.cell? ⟨w.heap.size + 1 + 1 + 1, 0, none⟩ = some (.int .i64 s4_0) ∧ w'.cell? ⟨w.heap.size + 1 + 1 + 1, 1, none⟩ = some (.int .i64 s4_1) ∧ w'.cell? ⟨w.heap.size + 1 + 1 + 1, 2, none⟩ = some (.int .i64 s4_2) ∧ w'.cell? ⟨w.heap.size + 1 + 1 + 1, 3, none⟩ = some (.int .i64 s4_3) ∧ w'.cell? ⟨w.heap.size + 1 + 1 + 1, 4, none⟩ = some (.int .i64 s4_4) ∧ Four w 23 40 #[.int .i64 s0_0, .int .i64 s0_1, .int .i64 s0_2, .int .i64 s0_3] #[.int .i64 s1_0, .int .i64 s1_1, .int .i64 s1_2, .int .i64 s1_3] #[.int .i64 s3_0, .int .i64 s3_1, .int .i64 s3_2, .int .i64 s3_3, .int .i64 s3_4] #[.int .i64 s4_0, .int .i64 s4_1, .int .i64 s4_2, .int .i64 s4_3, .int .i64 s4_4] w') _ from HF.out.cells)
      refine Turns.next 35 rfl (by kernel_rfl) (by rfl) (fun K hK => ?_)
      go_simp
      go_at_call 21
      refine (hn _).mono ?_
      rintro e wn35 ⟨rfl, hb⟩
      replace HF := Lib.hid (hS.2.2.2.2.2.2.2.2.2.2.2.2.2.2.2.2.2.2.next hb)
      clear hb
      refine hK.out _ _ (show (fun (w' : World) => w'.cell? ⟨w.heap.size, 0, none⟩ = some (.int .i64 s0_0) ∧ w'.cell? ⟨w.heap.size, 1, none⟩ = some (.int .i64 s0_1) ∧ w'.cell? ⟨w.heap.size, 2, none⟩ = some (.int .i64 s0_2) ∧ w'.cell? ⟨w.heap.size, 3, none⟩ = some (.int .i64 s0_3) ∧ w'.cell? ⟨w.heap.size + 1, 0, none⟩ = some (.int .i64 s1_0) ∧ w'.cell? ⟨w.heap.size + 1, 1, none⟩ = some (.int .i64 s1_1) ∧ w'.cell? ⟨w.heap.size + 1, 2, none⟩ = some (.int .i64 s1_2) ∧ w'.cell? ⟨w.heap.size + 1, 3, none⟩ = some (.int .i64 s1_3) ∧ w'.cell? ⟨w.heap.size + 1 + 1, 0, none⟩ = some (.int .i64 s3_0) ∧ w'.cell? ⟨w.heap.size + 1 + 1, 1, none⟩ = some (.int .i64 s3_1) ∧ w'.cell? ⟨w.heap.size + 1 + 1, 2, none⟩ = some (.int .i64 s3_2) ∧ w'.cell? ⟨w.heap.size + 1 + 1, 3, none⟩ = some (.int .i64 s3_3) ∧ w'.cell? ⟨w.heap.size + 1 + 1, 4, none⟩ = some (.int .i64 s3_4) ∧ w'.cell? ⟨w.heap.size + 1 + 1 + 1, 0, none⟩ = some (.int .i64 s4_0) ∧ w'.cell? ⟨w.heap.size + 1 + 1 + 1, 1, none⟩ = some (.int .i64 s4_1) ∧ w'.cell? ⟨w.heap.size + 1 + 1 + 1, 2, none⟩ = some (.int .i64 s4_2) ∧ w'.cell? ⟨w.heap.size + 1 + 1 + 1, 3, none⟩ = some (.int .i64 s4_3) ∧ w'.cell? ⟨w.heap.size + 1 + 1 + 1, 4, none⟩ = some (.int .i64 s4_4) ∧ Four w 23 40 #[.int .i64 s0_0, .int .i64 s0_1, .int .i64 s0_2, .int .i64 s0_3] #[.int .i64 s1_0, .int .i64 s1_1, .int .i64 s1_2, .int .i64 s1_3] #[.int .i64 s3_0, .int .i64 s3_1, .int .i64 s3_2, .int .i64 s3_3, .int .i64 s3_4] #[.int .i64 s4_0, .int .i64 s4_1, .int .i64 s4_2, .int .i64 s4_3, .int .i64 s4_4] w') _ from HF.out.cells) ?_
      clear hK K hS
      have hS := (show (fun (w' : World) => w'.cell? ⟨w.heap.size, 0, none⟩ = some (.int .i64 s0_0) ∧ w'.cell? ⟨w.heap.size, 1, none⟩ = some (.int .i64 s0_1) ∧ w'.cell? ⟨w.heap.size, 2, none⟩ = some (.int .i64 s0_2) ∧ w'.cell? ⟨w.heap.size, 3, none⟩ = some (.int .i64 s0_3) ∧ w'.cell? ⟨w.heap.size + 1, 0, none⟩ = some (.int .i64 s1_0) ∧ w'.cell? ⟨w.heap.size + 1, 1, none⟩ = some (.int .i64 s1_1) ∧ w'.cell? ⟨w.heap.size + 1, 2, none⟩ = some (.int .i64 s1_2) ∧ w'.cell? ⟨w.heap.size + 1, 3, none⟩ = some (.int .i64 s1_3) ∧ w'.cell? ⟨w.heap.size + 1 + 1, 0, none⟩ = some (.int .i64 s3_0) ∧ w'.cell? ⟨w.heap.size + 1 + 1, 1, none⟩ = some (.int .i64 s3_1) ∧ w'.cell? ⟨w.heap.size + 1 + 1, 2, none⟩ = some (.int .i64 s3_2) ∧ w'.cell? ⟨w.heap.size + 1 + 1, 3, none⟩ = some (.int .i64 s3_3) ∧ w'.cell? ⟨w.heap.size + 1 + 1, 4, none⟩ = some (.int .i64 s3_4) ∧ w'.cell? ⟨w.heap.size + 1 + 1 + 1, 0, none⟩ = some (.int .i64 s4_0) ∧ w'.cell? ⟨w.heap.size + 1 + 1 + 1, 1, none⟩ = some (.int .i64 s4_1) ∧ w'.cell? ⟨w.heap.size + 1 + 1 + 1, 2, none⟩ = some (.int .i64 s4_2) ∧ w'.cell? ⟨w.heap.size + 1 + 1 + 1, 3, none⟩ = some (.int .i64 s4_3) ∧ w'.cell? ⟨w.heap.size + 1 + 1 + 1, 4, none⟩ = some (.int .i64 s4_4) ∧ Four w 23 40 #[.int .i64 s0_0, .int .i64 s0_1, .int .i64 s0_2, .int .i64 s0_3] #[.int .i64 s1_0, .int .i64 s1_1, .int .i64 s1_2, .int .i64 s1_3] #[.int .i64 s3_0, .int .i64 s3_1, .int .i64 s3_2, .int .i64 s3_3, .int .i64 s3_4] #[.int .i64 s4_0, .int .i64 s4_1, .int .i64 s4_2, .int .i64 s4_3, .int .i64 s4_4] w') _ from HF.out.cells)
      refine Turns.take hS 36 _ rfl (by kernel_rfl) (by kernel_rfl) (by kernel_rfl) (by kernel_rfl) (fun _ _ _ h => h) (by rfl) (fun w' hS' => by (try dsimp only at hS'); go_split_ands; go_simp; (try with_reducible rfl)) ?_
      simp only [Act.put, List.getElem_toArray, List.getElem_cons_succ, List.getElem_cons_zero, List.setIfInBounds_toArray, List.set_cons_zero, List.set_cons_succ]
      refine Turns.take hS 37 _ rfl (by kernel_rfl) (by kernel_rfl) (by kernel_rfl) (by kernel_rfl) (fun _ _ _ h => h) (by rfl) (fun w' hS' => by (try dsimp only at hS'); go_split_ands; go_simp; (try with_reducible rfl)) ?_
      simp only [Act.put, List.getElem_toArray, List.getElem_cons_succ, List.getElem_cons_zero, List.setIfInBounds_toArray, List.set_cons_zero, List.set_cons_succ]
      refine Turns.take hS 38 _ rfl (by kernel_rfl) (by kernel_rfl) (by kernel_rfl) (by kernel_rfl) (fun _ _ _ h => h) (by rfl) (fun w' hS' => by (try dsimp only at hS'); go_split_ands; go_simp; (try with_reducible rfl)) ?_
      simp only [Act.put, List.getElem_toArray, List.getElem_cons_succ, List.getElem_cons_zero, List.setIfInBounds_toArray, List.set_cons_zero, List.set_cons_succ]
      refine Turns.rest (late_done (by kernel_rfl)) ?_
      refine any_tail 39 (by rfl) (by kernel_rfl) ?_
      simp only [List.drop_succ_cons, List.drop_zero]
      clear hS
      go_wp2
      go_meet
      case rel => exact HF.out
    case rest =>
      clear HF x0 x1 x2 x3 x4 x5 x6 x7 x8 x9 x10 x11 x12 x13 x14 x15 x16 x17
      have HF := Lib.hid hcut
      obtain ⟨x0, x1, x2, x3, x4, x5, x6, x7, x8, x9, x10, x11, x12, x13, x14, x15, x16, x17, _⟩ := hcut.cells
      clear hcut HP
      go_upto_region 6 with (fail)
      go_cut [128] from 88 to 128 (fun c wx => ∃ b : Bool, c = .bool b ∧ (b = true → (ntGood s3_0 s3_1 s3_2 s3_3 s3_4 = true ∧ ntGood s4_0 s4_1 s4_2 s4_3 s4_4 = true ∧ s3_0 ≤ s4_0 ∧ s3_1 ≤ s4_1 ∧ s3_2 ≤ s4_2 ∧ s3_3 ≤ s4_3 ∧ s3_4 ≤ s4_4)) ∧ Four w 23 40 #[.int .i64 s0_0, .int .i64 s0_1, .int .i64 s0_2, .int .i64 s0_3] #[.int .i64 s1_0, .int .i64 s1_1, .int .i64 s1_2, .int .i64 s1_3] #[.int .i64 s3_0, .int .i64 s3_1, .int .i64 s3_2, .int .i64 s3_3, .int .i64 s3_4] #[.int .i64 s4_0, .int .i64 s4_1, .int .i64 s4_2, .int .i64 s4_3, .int .i64 s4_4] wx)
      case first =>
        have hk1 := fun W => ngood_any s3_0 s3_1 s3_2 s3_3 s3_4 W
        have hk2 := fun W => ngood_any s4_0 s4_1 s4_2 s4_3 s4_4 W
        cases k1 : ntGood s3_0 s3_1 s3_2 s3_3 s3_4
        · simp only [k1] at hk1
          go_wp2_with (first
            | (go_at_call 25; (with_reducible refine (hk1 _).mono ?_); rintro e wx ⟨rfl, hb⟩; replace HF := Lib.hid (HF.out.next hb); clear hb; obtain ⟨x0, x1, x2, x3, x4, x5, x6, x7, x8, x9, x10, x11, x12, x13, x14, x15, x16, x17, _⟩ := HF.out.cells)
            | (go_at_call 25; (with_reducible refine (hk2 _).mono ?_); rintro e wx ⟨rfl, hb⟩; replace HF := Lib.hid (HF.out.next hb); clear hb; obtain ⟨x0, x1, x2, x3, x4, x5, x6, x7, x8, x9, x10, x11, x12, x13, x14, x15, x16, x17, _⟩ := HF.out.cells))
          go_meet
          case rel => exact ⟨false, rfl, (fun h => by cases h), HF.out⟩
        simp only [k1] at hk1
        cases k2 : ntGood s4_0 s4_1 s4_2 s4_3 s4_4
        · simp only [k2] at hk2
          go_wp2_with (first
            | (go_at_call 25; (with_reducible refine (hk1 _).mono ?_); rintro e wx ⟨rfl, hb⟩; replace HF := Lib.hid (HF.out.next hb); clear hb; obtain ⟨x0, x1, x2, x3, x4, x5, x6, x7, x8, x9, x10, x11, x12, x13, x14, x15, x16, x17, _⟩ := HF.out.cells)
            | (go_at_call 25; (with_reducible refine (hk2 _).mono ?_); rintro e wx ⟨rfl, hb⟩; replace HF := Lib.hid (HF.out.next hb); clear hb; obtain ⟨x0, x1, x2, x3, x4, x5, x6, x7, x8, x9, x10, x11, x12, x13, x14, x15, x16, x17, _⟩ := HF.out.cells))
          go_meet
          case rel => exact ⟨false, rfl, (fun h => by cases h), HF.out⟩
        simp only [k2] at hk2
        by_cases q0 : s3_0 ≤ s4_0
        rotate_left
        · have p0 : decide (s3_0 ≤ s4_0) = false := decide_eq_false q0
          go_wp2_with (first
            | (go_at_call 25; (with_reducible refine (hk1 _).mono ?_); rintro e wx ⟨rfl, hb⟩; replace HF := Lib.hid (HF.out.next hb); clear hb; obtain ⟨x0, x1, x2, x3, x4, x5, x6, x7, x8, x9, x10, x11, x12, x13, x14, x15, x16, x17, _⟩ := HF.out.cells)
            | (go_at_call 25; (with_reducible refine (hk2 _).mono ?_); rintro e wx ⟨rfl, hb⟩; replace HF := Lib.hid (HF.out.next hb); clear hb; obtain ⟨x0, x1, x2, x3, x4, x5, x6, x7, x8, x9, x10, x11, x12, x13, x14, x15, x16, x17, _⟩ := HF.out.cells))
          go_meet
          case rel => exact ⟨false, rfl, (fun h => by cases h), HF.out⟩
        have p0 : decide (s3_0 ≤ s4_0) = true := decide_eq_true q0
        by_cases q1 : s3_1 ≤ s4_1
        rotate_left
        · have p1 : decide (s3_1 ≤ s4_1) = false := decide_eq_false q1
          go_wp2_with (first
            | (go_at_call 25; (with_reducible refine (hk1 _).mono ?_); rintro e wx ⟨rfl, hb⟩; replace HF := Lib.hid (HF.out.next hb); clear hb; obtain ⟨x0, x1, x2, x3, x4, x5, x6, x7, x8, x9, x10, x11, x12, x13, x14, x15, x16, x17, _⟩ := HF.out.cells)
            | (go_at_call 25; (with_reducible refine (hk2 _).mono ?_); rintro e wx ⟨rfl, hb⟩; replace HF := Lib.hid (HF.out.next hb); clear hb; obtain ⟨x0, x1, x2, x3, x4, x5, x6, x7, x8, x9, x10, x11, x12, x13, x14, x15, x16, x17, _⟩ := HF.out.cells))
          go_meet
          case rel => exact ⟨false, rfl, (fun h => by cases h), HF.out⟩
        have p1 : decide (s3_1 ≤ s4_1) = true := decide_eq_true q1
        by_cases q2 : s3_2 ≤ s4_2
        rotate_left
        · have p2 : decide (s3_2 ≤ s4_2) = false := decide_eq_false q2
          go_wp2_with (first
            | (go_at_call 25; (with_reducible refine (hk1 _).mono ?_); rintro e wx ⟨rfl, hb⟩; replace HF := Lib.hid (HF.out.next hb); clear hb; obtain ⟨x0, x1, x2, x3, x4, x5, x6, x7, x8, x9, x10, x11, x12, x13, x14, x15, x16, x17, _⟩ := HF.out.cells)
            | (go_at_call 25; (with_reducible refine (hk2 _).mono ?_); rintro e wx ⟨rfl, hb⟩; replace HF := Lib.hid (HF.out.next hb); clear hb; obtain ⟨x0, x1, x2, x3, x4, x5, x6, x7, x8, x9, x10, x11, x12, x13, x14, x15, x16, x17, _⟩ := HF.out.cells))
          go_meet
          case rel => exact ⟨false, rfl, (fun h => by cases h), HF.out⟩
        have p2 : decide (s3_2 ≤ s4_2) = true := decide_eq_true q2
        by_cases q3 : s3_3 ≤ s4_3
        rotate_left
        · have p3 : decide (s3_3 ≤ s4_3) = false := decide_eq_false q3
          go_wp2_with (first
            | (go_at_call 25; (with_reducible refine (hk1 _).mono ?_); rintro e wx ⟨rfl, hb⟩; replace HF := Lib.hid (HF.out.next hb); clear hb; obtain ⟨x0, x1, x2, x3, x4, x5, x6, x7, x8, x9, x10, x11, x12, x13, x14, x15, x16, x17, _⟩ := HF.out.cells)
            | (go_at_call 25; (with_reducible refine (hk2 _).mono ?_); rintro e wx ⟨rfl, hb⟩; replace HF := Lib.hid (HF.out.next hb); clear hb; obtain ⟨x0, x1, x2, x3, x4, x5, x6, x7, x8, x9, x10, x11, x12, x13, x14, x15, x16, x17, _⟩ := HF.out.cells))
          go_meet
          case rel => exact ⟨false, rfl, (fun h => by cases h), HF.out⟩
        have p3 : decide (s3_3 ≤ s4_3) = true := decide_eq_true q3
        by_cases q4 : s3_4 ≤ s4_4
        rotate_left
        · have p4 : decide (s3_4 ≤ s4_4) = false := decide_eq_false q4
          go_wp2_with (first
            | (go_at_call 25; (with_reducible refine (hk1 _).mono ?_); rintro e wx ⟨rfl, hb⟩; replace HF := Lib.hid (HF.out.next hb); clear hb; obtain ⟨x0, x1, x2, x3, x4, x5, x6, x7, x8, x9, x10, x11, x12, x13, x14, x15, x16, x17, _⟩ := HF.out.cells)
            | (go_at_call 25; (with_reducible refine (hk2 _).mono ?_); rintro e wx ⟨rfl, hb⟩; replace HF := Lib.hid (HF.out.next hb); clear hb; obtain ⟨x0, x1, x2, x3, x4, x5, x6, x7, x8, x9, x10, x11, x12, x13, x14, x15, x16, x17, _⟩ := HF.out.cells))
          go_meet
          case rel => exact ⟨false, rfl, (fun h => by cases h), HF.out⟩
        have p4 : decide (s3_4 ≤ s4_4) = true := decide_eq_true q4
        go_wp2_with (first
          | (go_at_call 25; (with_reducible refine (hk1 _).mono ?_); rintro e wx ⟨rfl, hb⟩; replace HF := Lib.hid (HF.out.next hb); clear hb; obtain ⟨x0, x1, x2, x3, x4, x5, x6, x7, x8, x9, x10, x11, x12, x13, x14, x15, x16, x17, _⟩ := HF.out.cells)
          | (go_at_call 25; (with_reducible refine (hk2 _).mono ?_); rintro e wx ⟨rfl, hb⟩; replace HF := Lib.hid (HF.out.next hb); clear hb; obtain ⟨x0, x1, x2, x3, x4, x5, x6, x7, x8, x9, x10, x11, x12, x13, x14, x15, x16, x17, _⟩ := HF.out.cells))
        go_meet
        case rel => exact ⟨true, rfl, (fun _ => ⟨k1, k2, q0, q1, q2, q3, q4⟩), HF.out⟩
      case rest =>
        obtain ⟨b, rfl, hP, hF⟩ := hcut
        clear HF x0 x1 x2 x3 x4 x5 x6 x7 x8 x9 x10 x11 x12 x13 x14 x15 x16 x17
        have HF := Lib.hid hF
        obtain ⟨x0, x1, x2, x3, x4, x5, x6, x7, x8, x9, x10, x11, x12, x13, x14, x15, x16, x17, _⟩ := hF.cells
        clear hF
        have HP := Lib.hid hP
        clear hP
        cases b
        · go_wp2
          go_ret
          exact ⟨rfl, HF.out.below⟩
        obtain ⟨g, g', h0, h1, h2, h3, h4⟩ := HP.out rfl
        have m1 := patience_mono g g' h1 h2
        have m2 := settle_mono (t := a5) g g' h0 h1 h2 h3 h4
        clear HP g g' h0 h1 h2 h3 h4
        have hp := fun W => patience_any s3_0 s3_1 s3_2 s3_3 s3_4 W
        have hp' := fun W => patience_any s4_0 s4_1 s4_2 s4_3 s4_4 W
        have hs := fun W => settle_any s3_0 s3_1 s3_2 s3_3 s3_4 a5 W
        have hs' := fun W => settle_any s4_0 s4_1 s4_2 s4_3 s4_4 a5 W
        obtain ⟨P, e0⟩ : ∃ P, ntPatience s3_0 s3_1 s3_2 s3_3 s3_4 = P := ⟨_, rfl⟩
        simp only [e0] at hp m1
        clear e0
        obtain ⟨P', e0⟩ : ∃ P', ntPatience s4_0 s4_1 s4_2 s4_3 s4_4 = P' := ⟨_, rfl⟩
        simp only [e0] at hp' m1
        clear e0
        obtain ⟨Z, e0⟩ : ∃ Z, ntSettle s3_0 s3_1 s3_2 s3_3 s3_4 a5 = Z := ⟨_, rfl⟩
        simp only [e0] at hs m2
        clear e0
        obtain ⟨Z', e0⟩ : ∃ Z', ntSettle s4_0 s4_1 s4_2 s4_3 s4_4 a5 = Z' := ⟨_, rfl⟩
        simp only [e0] at hs' m2
        clear e0
        have d1 : decide (P' < P) = false := decide_eq_false (by omega)
        by_cases z0 : 0 < Z'
        rotate_left
        · have p0 : decide (0 < Z') = false := decide_eq_false z0
          clear m2
          go_upto_region 7 with (fail)
          refine region_turns (fun (w' : World) => w'.cell? ⟨w.heap.size, 0, none⟩ = some (.int .i64 s0_0) ∧ w'.cell? ⟨w.heap.size, 1, none⟩ = some (.int .i64 s0_1) ∧ w'.cell? ⟨w.heap.size, 2, none⟩ = some (.int .i64 s0_2) ∧ w'.cell? ⟨w.heap.size, 3, none⟩ = some (.int .i64 s0_3) ∧ w'.cell? ⟨w.heap.size + 1, 0, none⟩ = some (.int .i64 s1_0) ∧ w'.cell? ⟨w.heap.size + 1, 1, none⟩ = some (.int .i64 s1_1) ∧ w'.cell? ⟨w.heap.size + 1, 2, none⟩ = some (.int .i64 s1_2) ∧ w'.cell? ⟨w.heap.size + 1, 3, none⟩ = some (.int .i64 s1_3) ∧ w'.cell? ⟨w.heap.size + 1 + 1, 0, none⟩ = some (.int .i64 s3_0) ∧ w'.cell? ⟨w.heap.size + 1 + 1, 1, none⟩ = some (.int .i64 s3_1) ∧ w'.cell? ⟨w.heap.size + 1 + 1, 2, none⟩ = some (.int .i64 s3_2) ∧ w'.cell? ⟨w.heap.size + 1 + 1, 3, none⟩ = some (.int .i64 s3_3) ∧ w'.cell? ⟨w.heap.size + 1 + 1, 4, none⟩ = some (.int .i64 s3_4) ∧ w'.cell? ⟨w.heap.size + 1 + 1 + 1, 0, none⟩ = some (.int .i64 s4_0) ∧ w'.cell? ⟨w.heap.size + 1 + 1 + 1, 1, none⟩ = some (.int .i64 s4_1) ∧ w'.cell? ⟨w.heap.size + 1 + 1 + 1, 2, none⟩ = some (.int .i64 s4_2) ∧ w'.cell? ⟨w.heap.size + 1 + 1 + 1, 3, none⟩ = some (.int .i64 s4_3) ∧ w'.cell? ⟨w.heap.size + 1 + 1 + 1, 4, none⟩ = some (.int .i64 s4_4) ∧ Four w 23 40 #[.int .i64 s0_0, .int .i64 s0_1, .int .i64 s0_2, .int .i64 s0_3] #[.int .i64 s1_0, .int .i64 s1_1, .int .i64 s1_2, .int .i64 s1_3] #[.int .i64 s3_0, .int .i64 s3_1, .int .i64 s3_2, .int .i64 s3_3, .int .i64 s3_4] #[.int .i64 s4_0, .int .i64 s4_1, .int .i64 s4_2, .int .i64 s4_3, .int .i64 s4_4] w') (fun j => decide (20 ≤ j)) (by kernel_rfl) (HF.out.drew.cells) (fun hS => ?_)
          refine Turns.take hS 0 _ rfl (by kernel_rfl) (by kernel_rfl) (by kernel_rfl) (by kernel_rfl) (fun _ _ _ h => h) (by rfl) (fun w' hS' => by (try dsimp only at hS'); go_split_ands; go_simp; (try with_reducible rfl)) ?_
          simp only [Act.put, List.getElem_toArray, List.getElem_cons_succ, List.getElem_cons_zero, List.setIfInBounds_toArray, List.set_cons_zero, List.set_cons_succ]
          refine Turns.take hS 2 _ rfl (by kernel_rfl) (by kernel_rfl) (by kernel_rfl) (by kernel_rfl) (fun _ _ _ h => h) (by rfl) (fun w' hS' => by (try dsimp only at hS'); go_split_ands; go_simp; (try with_reducible rfl)) ?_
          simp only [Act.put, List.getElem_toArray, List.getElem_cons_succ, List.getElem_cons_zero, List.setIfInBounds_toArray, List.set_cons_zero, List.set_cons_succ]
          refine Turns.next 1 rfl (by kernel_rfl) (by rfl) (fun K hK => ?_)
          go_simp
          go_at_call 27
          refine (hp _).mono ?_
          rintro e wn1 ⟨rfl, hb⟩
          replace HF := Lib.hid (hS.2.2.2.2.2.2.2.2.2.2.2.2.2.2.2.2.2.2.next hb)
          clear hb
          refine hK.out _ _ (show (fun (w' : World) => w'.cell? ⟨w.heap.size, 0, none⟩ = some (.int .i64 s0_0) ∧ w'.cell? ⟨w.heap.size, 1, none⟩ = some (.int .i64 s0_1) ∧ w'.cell? ⟨w.heap.size, 2, none⟩ = some (.int .i64 s0_2) ∧ w'.cell? ⟨w.heap.size, 3, none⟩ = some (.int .i64 s0_3) ∧ w'.cell? ⟨w.heap.size + 1, 0, none⟩ = some (.int .i64 s1_0) ∧ w'.cell? ⟨w.heap.size + 1, 1, none⟩ = some (.int .i64 s1_1) ∧ w'.cell? ⟨w.heap.size + 1, 2, none⟩ = some (.int .i64 s1_2) ∧ w'.cell? ⟨w.heap.size + 1, 3, none⟩ = some (.int .i64 s1_3) ∧ w'.cell? ⟨w.heap.size + 1 + 1, 0, none⟩ = some (.int .i64 s3_0) ∧ w'.cell? ⟨w.heap.size + 1 + 1, 1, none⟩ = some (.int .i64 s3_1) ∧ w'.cell? ⟨w.heap.size + 1 + 1, 2, none⟩ = some (.int .i64 s3_2) ∧ w'.cell? ⟨w.heap.size + 1 + 1, 3, none⟩ = some (.int .i64 s3_3) ∧ w'.cell? ⟨w.heap.size + 1 + 1, 4, none⟩ = some (.int .i64 s3_4) ∧ w'.cell? ⟨w.heap.size + 1 + 1 + 1, 0, none⟩ = some (.int .i64 s4_0) ∧ w'.cell? ⟨w.heap.size + 1 + 1 + 1, 1, none⟩ = some (.int .i64 s4_1) ∧ w'.cell? ⟨w.heap.size + 1 + 1 + 1, 2, none⟩ = some (.int .i64 s4_2) ∧ w'.cell? ⟨w.heap.size + 1 + 1 + 1, 3, none⟩ = some (.int .i64 s4_3) ∧ w'.cell? ⟨w.heap.size + 1 + 1 + 1, 4, none⟩ = some (.int .i64 s4_4) ∧ Four w 23 40 #[.int .i64 s0_0, .int .i64 s0_1, .int .i64 s0_2, .int .i64 s0_3] #[.int .i64 s1_0, .int .i64 s1_1, .int .i64 s1_2, .int .i64 s1_3] #[.int .i64 s3_0, .int .i64 s3_1, .int .i64 s3_2, .int .i64 s3_3, .int .i64 s3_4] #[.int .i64 s4_0, .int .i64 s4_1, .int .i64 s4_2, .int .i64 s4_3, .int .i64 s4_4] w') _ from HF.out.cells) ?_
          clear hK K hS
          have hS := (show (fun (w' : World) => w'.cell? ⟨w.heap.size, 0, none⟩ = some (.int .i64 s0_0) ∧ w'.cell? ⟨w.heap.size, 1, none⟩ = some (.int .i64 s0_1) ∧ w'.cell? ⟨w.heap.size, 2, none⟩ = some (.int .i64 s0_2) ∧ w'.cell? ⟨w.heap.size, 3, none⟩ = some (.int .i64 s0_3) ∧ w'.cell? ⟨w.heap.size + 1, 0, none⟩ = some (.int .i64 s1_0) ∧ w'.cell? ⟨w.heap.size + 1, 1, none⟩ = some (.int .i64 s1_1) ∧ w'.cell? ⟨w.heap.size + 1, 2, none⟩ = some (.int .i64 s1_2) ∧ w'.cell? ⟨w.heap.size + 1, 3, none⟩ = some (.int .i64 s1_3) ∧ w'.cell? ⟨w.heap.size + 1 + 1, 0, none⟩ = some (.int .i64 s3_0) ∧ w'.cell? ⟨w.heap.size + 1 + 1, 1, none⟩ = some (.int .i64 s3_1) ∧ w'.cell? ⟨w.heap.size + 1 + 1, 2, none⟩ = some (.int .i64 s3_2) ∧ w'.cell? ⟨w.heap.size + 1 + 1, 3, none⟩ = some (.int .i64 s3_3) ∧ w'.cell? ⟨w.heap.size + 1 + 1, 4, none⟩ = some (.int .i64 s3_4) ∧ w'.cell? ⟨w.heap.size + 1 + 1 + 1, 0, none⟩ = some (.int .i64 s4_0) ∧ w'.cell? ⟨w.heap.size + 1 + 1 + 1, 1, none⟩ = some (.int .i64 s4_1) ∧ w'.cell? ⟨w.heap.size + 1 + 1 + 1, 2, none⟩ = some (.int .i64 s4_2) ∧ w'.cell? ⟨w.heap.size + 1 + 1 + 1, 3, none⟩ = some (.int .i64 s4_3) ∧ w'.cell? ⟨w.heap.size + 1 + 1 + 1, 4, none⟩ = some (.int .i64 s4_4) ∧ Four w 23 40 #[.int .i64 s0_0, .int .i64 s0_1, .int .i64 s0_2, .int .i64 s0_3] #[.int .i64 s1_0, .int .i64 s1_1, .int .i64 s1_2, .int .i64 s1_3] #[.int .i64 s3_0, .int .i64 s3_1, .int .i64 s3_2, .int .i64 s3_3, .int .i64 s3_4] #[.int .i64 s4_0, .int .i64 s4_1, .int .i64 s4_2, .int .i64 s4_3, .int .i64 s4_4] w') _ from HF.out.cells)
          refine Turns.next 3 rfl (by kernel_rfl) (by rfl) (fun K hK => ?_)
          go_simp
          go_at_call 27
          refine (hp' _).mono ?_
          rintro e wn3 ⟨rfl, hb⟩
          replace HF := Lib.hid (hS.2.2.2.2.2.2.2.2.2.2.2.2.2.2.2.2.2.2.next hb)
          clear hb
          refine hK.out _ _ (show (fun (w' : World) => w'.cell? ⟨w.heap.size, 0, none⟩ = some (.int .i64 s0_0) ∧ w'.cell? ⟨w.heap.size, 1, none⟩ = some (.int .i64 s0_1) ∧ w'.cell? ⟨w.heap.size, 2, none⟩ = some (.int .i64 s0_2) ∧ w'.cell? ⟨w.heap.size, 3, none⟩ = some (.int .i64 s0_3) ∧ w'.cell? ⟨w.heap.size + 1, 0, none⟩ = some (.int .i64 s1_0) ∧ w'.cell? ⟨w.heap.size + 1, 1, none⟩ = some (.int .i64 s1_1) ∧ w'.cell? ⟨w.heap.size + 1, 2, none⟩ = some (.int .i64 s1_2) ∧ w'.cell? ⟨w.heap.size + 1, 3, none⟩ = some (.int .i64 s1_3) ∧ w'.cell? ⟨w.heap.size + 1 + 1, 0, none⟩ = some (.int .i64 s3_0) ∧ w'.cell? ⟨w.heap.size + 1 + 1, 1, none⟩ = some (.int .i64 s3_1) ∧ w'.cell? ⟨w.heap.size + 1 + 1, 2, none⟩ = some (.int .i64 s3_2) ∧ w'.cell? ⟨w.heap.size + 1 + 1, 3, none⟩ = some (.int .i64 s3_3) ∧ w'.cell? ⟨w.heap.size + 1 + 1, 4, none⟩ = some (.int .i64 s3_4) ∧ w'.cell? ⟨w.heap.size + 1 + 1 + 1, 0, none⟩ = some (.int .i64 s4_0) ∧ w'.cell? ⟨w.heap.size + 1 + 1 + 1, 1, none⟩ = some (.int .i64 s4_1) ∧ w'.cell? ⟨w.heap.size + 1 + 1 + 1, 2, none⟩ = some (.int .i64 s4_2) ∧ w'.cell? ⟨w.heap.size + 1 + 1 + 1, 3, none⟩ = some (.int .i64 s4_3) ∧ w'.cell? ⟨w.heap.size + 1 + 1 + 1, 4, none⟩ = some (.int .i64 s4_4) ∧ Four w 23 40 #[.int .i64 s0_0, .int .i64 s0_1, .int .i64 s0_2, .int .i64 s0_3] #[.int .i64 s1_0, .int .i64 s1_1, .int .i64 s1_2, .int .i64 s1_3] #[.int .i64 s3_0, .int .i64 s3_1, .int .i64 s3_2, .int .i64 s3_3, .int .i64 s3_4] #[.int .i64 s4_0, .int .i64 s4_1, .int .i64 s4_2, .int .i64 s4_3, .int .i64 s4_4] w') _ from HF.out.cells) ?_
          clear hK K hS
          have hS := (show (fun (w' : World) => w'.cell? ⟨w.heap.size, 0, none⟩ = some (.int .i64 s0_0) ∧ w'.cell? ⟨w.heap.size, 1, none⟩ = some (.int .i64 s0_1) ∧ w'.cell? ⟨w.heap.size, 2, none⟩ = some (.int .i64 s0_2) ∧ w'.cell? ⟨w.heap.size, 3, none⟩ = some (.int .i64 s0_3) ∧ w'.cell? ⟨w.heap.size + 1, 0, none⟩ = some (.int .i64 s1_0) ∧ w'.cell? ⟨w.heap.size + 1, 1, none⟩ = some (.int .i64 s1_1) ∧ w'.cell? ⟨w.heap.size + 1, 2, none⟩ = some (.int .i64 s1_2) ∧ w'.cell? ⟨w.heap.size + 1, 3, none⟩ = some (.int .i64 s1_3) ∧ w'.cell? ⟨w.heap.size + 1 + 1, 0, none⟩ = some (.int .i64 s3_0) ∧ w'.cell? ⟨w.heap.size + 1 + 1, 1, none⟩ = some (.int .i64 s3_1) ∧ w'.cell? ⟨w.heap.size + 1 + 1, 2, none⟩ = some (.int .i64 s3_2) ∧ w'.cell? ⟨w.heap.size + 1 + 1, 3, none⟩ = some (.int .i64 s3_3) ∧ w'.cell? ⟨w.heap.size + 1 + 1, 4, none⟩ = some (.int .i64 s3_4) ∧ w'.cell? ⟨w.heap.size + 1 + 1 + 1, 0, none⟩ = some (.int .i64 s4_0) ∧ w'.cell? ⟨w.heap.size + 1 + 1 + 1, 1, none⟩ = some (.int .i64 s4_1) ∧ w'.cell? ⟨w.heap.size + 1 + 1 + 1, 2, none⟩ = some (.int .i64 s4_2) ∧ w'.cell? ⟨w.heap.size + 1 + 1 + 1, 3, none⟩ = some (.int .i64 s4_3) ∧ w'.cell? ⟨w.heap.size + 1 + 1 + 1, 4, none⟩ = some (.int .i64 s4_4) ∧ Four w 23 40 #[.int .i64 s0_0, .int .i64 s0_1, .int .i64 s0_2, .int .i64 s0_3] #[.int .i64 s1_0, .int .i64 s1_1, .int .i64 s1_2, .int .i64 s1_3] #[.int .i64 s3_0, .int .i64 s3_1, .int .i64 s3_2, .int .i64 s3_3, .int .i64 s3_4] #[.int .i64 s4_0, .int .i64 s4_1, .int .i64 s4_2, .int .i64 s4_3, .int .i64 s4_4] w') _ from HF.out.cells)
          refine Turns.take hS 4 _ rfl (by kernel_rfl) (by kernel_rfl) (by kernel_rfl) (by kernel_rfl) (fun _ _ _ h => h) (by rfl) (fun w' hS' => by (try dsimp only at hS'); go_split_ands; go_simp; (try with_reducible rfl)) ?_
          simp only [Act.put, List.getElem_toArray, List.getElem_cons_succ, List.getElem_cons_zero, List.setIfInBounds_toArray, List.set_cons_zero, List.set_cons_succ]
          refine Turns.take hS 5 _ rfl (by kernel_rfl) (by kernel_rfl) (by kernel_rfl) (by kernel_rfl) (fun _ _ _ h => h) (by rfl) (fun w' hS' => by (try dsimp only at hS'); go_split_ands; go_simp; (try with_reducible rfl)) ?_
          simp only [Act.put, List.getElem_toArray, List.getElem_cons_succ, List.getElem_cons_zero, List.setIfInBounds_toArray, List.set_cons_zero, List.set_cons_succ]
          refine Turns.take hS 6 _ rfl (by kernel_rfl) (by kernel_rfl) (by kernel_rfl) (by kernel_rfl) (fun _ _ _ h => h) (by rfl) (fun w' hS' => by (try dsimp only at hS'); go_split_ands; go_simp; (try with_reducible rfl)) ?_
          simp only [Act.put, List.getElem_toArray, List.getElem_cons_succ, List.getElem_cons_zero, List.setIfInBounds_toArray, List.set_cons_zero, List.set_cons_succ]
          refine Turns.take hS 7 _ rfl (by kernel_rfl) (by kernel_rfl) (by kernel_rfl) (by kernel_rfl) (fun _ _ _ h => h) (by rfl) (fun w' hS' => by (try dsimp only at hS'); go_split_ands; go_simp; (try with_reducible rfl)) ?_
          simp only [Act.put, List.getElem_toArray, List.getElem_cons_succ, List.getElem_cons_zero, List.setIfInBounds_toArray, List.set_cons_zero, List.set_cons_succ]
          refine Turns.next 8 rfl (by kernel_rfl) (by rfl) (fun K hK => ?_)
          go_simp
          go_at_call 28
          refine (hs' _).mono ?_
          rintro e wn8 ⟨rfl, hb⟩
          replace HF := Lib.hid (hS.2.2.2.2.2.2.2.2.2.2.2.2.2.2.2.2.2.2.next hb)
          clear hb
          refine hK.out _ _ (show (fun (w' : World) => w'.cell? ⟨w.heap.size, 0, none⟩ = some (.int .i64 s0_0) ∧ w'.cell? ⟨w.heap.size, 1, none⟩ = some (.int .i64 s0_1) ∧ w'.cell? ⟨w.heap.size, 2, none⟩ = some (.int .i64 s0_2) ∧ w'.cell? ⟨w.heap.size, 3, none⟩ = some (.int .i64 s0_3) ∧ w'.cell? ⟨w.heap.size + 1, 0, none⟩ = some (.int .i64 s1_0) ∧ w'.cell? ⟨w.heap.size + 1, 1, none⟩ = some (.int .i64 s1_1) ∧ w'.cell? ⟨w.heap.size + 1, 2, none⟩ = some (.int .i64 s1_2) ∧ w'.cell? ⟨w.heap.size + 1, 3, none⟩ = some (.int .i64 s1_3) ∧ w'.cell? ⟨w.heap.size + 1 + 1, 0, none⟩ = some (.int .i64 s3_0) ∧ w'.cell? ⟨w.heap.size + 1 + 1, 1, none⟩ = some (.int .i64 s3_1) ∧ w'.cell? ⟨w.heap.size + 1 + 1, 2, none⟩ = some (.int .i64 s3_2) ∧ w'.cell? ⟨w.heap.size + 1 + 1, 3, none⟩ = some (.int .i64 s3_3) ∧ w'.cell? ⟨w.heap.size + 1 + 1, 4, none⟩ = some (.int .i64 s3_4) ∧ w'.cell? ⟨w.heap.size + 1 + 1 + 1, 0, none⟩ = some (.int .i64 s4_0) ∧ w'.cell? ⟨w.heap.size + 1 + 1 + 1, 1, none⟩ = some (.int .i64 s4_1) ∧ w'.cell? ⟨w.heap.size + 1 + 1 + 1, 2, none⟩ = some (.int .i64 s4_2) ∧ w'.cell? ⟨w.heap.size + 1 + 1 + 1, 3, none⟩ = some (.int .i64 s4_3) ∧ w'.cell? ⟨w.heap.size + 1 + 1 + 1, 4, none⟩ = some (.int .i64 s4_4) ∧ Four w 23 40 #[.int .i64 s0_0, .int .i64 s0_1, .int .i64 s0_2, .int .i64 s0_3] #[.int .i64 s1_0, .int .i64 s1_1, .int .i64 s1_2, .int .i64 s1_3] #[.int .i64 s3_0, .int .i64 s3_1, .int .i64 s3_2, .int .i64 s3_3, .int .i64 s3_4] #[.int .i64 s4_0, .int .i64 s4_1, .int .i64 s4_2, .int .i64 s4_3, .int .i64 s4_4] w') _ from HF.out.cells) ?_
          clear hK K hS
          have hS := (show (fun (w' : World) => w'.cell? ⟨w.heap.size, 0, none⟩ = some (.int .i64 s0_0) ∧ w'.cell? ⟨w.heap.size, 1, none⟩ = some (.int .i64 s0_1) ∧ w'.cell? ⟨w.heap.size, 2, none⟩ = some (.int .i64 s0_2) ∧ w'.cell? ⟨w.heap.size, 3, none⟩ = some (.int .i64 s0_3) ∧ w'.cell? ⟨w.heap.size + 1, 0, none⟩ = some (.int .i64 s1_0) ∧ w'.cell? ⟨w.heap.size + 1, 1, none⟩ = some (.int .i64 s1_1) ∧ w'.cell? ⟨w.heap.size + 1, 2, none⟩ = some (.int .i64 s1_2) ∧ w'.cell? ⟨w.heap.size + 1, 3, none⟩ = some (.int .i64 s1_3) ∧ w'.cell? ⟨w.heap.size + 1 + 1, 0, none⟩ = some (.int .i64 s3_0) ∧ w'.cell? ⟨w.heap.size + 1 + 1, 1, none⟩ = some (.int .i64 s3_1) ∧ w'.cell? ⟨w.heap.size + 1 + 1, 2, none⟩ = some (.int .i64 s3_2) ∧ w'.cell? ⟨w.heap.size + 1 + 1, 3, none⟩ = some (.int .i64 s3_3) ∧ w'.cell? ⟨w.heap.size + 1 + 1, 4, none⟩ = some (.int .i64 s3_4) ∧ w'.cell? ⟨w.heap.size + 1 + 1 + 1, 0, none⟩ = some (.int .i64 s4_0) ∧ w'.cell? ⟨w.heap.size + 1 + 1 + 1, 1, none⟩ = some (.int .i64 s4_1) ∧ w'.cell? ⟨w.heap.size + 1 + 1 + 1, 2, none⟩ = some (.int .i64 s4_2) ∧ w'.cell? ⟨w.heap.size + 1 + 1 + 1, 3, none⟩ = some (.int .i64 s4_3) ∧ w'.cell? ⟨w.heap.size + 1 + 1 + 1, 4, none⟩ = some (.int .i64 s4_4) ∧ Four w 23 40 #[.int .i64 s0_0, .int .i64 s0_1, .int .i64 s0_2, .int .i64 s0_3] #[.int .i64 s1_0, .int .i64 s1_1, .int .i64 s1_2, .int .i64 s1_3] #[.int .i64 s3_0, .int .i64 s3_1, .int .i64 s3_2, .int .i64 s3_3, .int .i64 s3_4] #[.int .i64 s4_0, .int .i64 s4_1, .int .i64 s4_2, .int .i64 s4_3, .int .i64 s4_4] w') _ from HF.out.cells)
          refine Turns.take hS 9 _ rfl (by kernel_rfl) (by kernel_rfl) (by kernel_rfl) (by kernel_rfl) (fun _ _ _ h => h) (by rfl) (fun w' hS' => by (try dsimp only at hS'); go_split_ands; go_simp; (try with_reducible rfl)) ?_
          simp only [Act.put, List.getElem_toArray, List.getElem_cons_succ, List.getElem_cons_zero, List.setIfInBounds_toArray, List.set_cons_zero, List.set_cons_succ]
          refine Turns.take hS 10 _ rfl (by kernel_rfl) (by kernel_rfl) (by kernel_rfl) (by kernel_rfl) (fun _ _ _ h => h) (by rfl) (fun w' hS' => by (try dsimp only at hS'); go_split_ands; go_simp; (try with_reducible rfl)) ?_
          simp only [Act.put, List.getElem_toArray, List.getElem_cons_succ, List.getElem_cons_zero, List.setIfInBounds_toArray, List.set_cons_zero, List.set_cons_succ]
          refine Turns.skip hS 11 rfl (by kernel_rfl) (by kernel_rfl) (by kernel_rfl) (by kernel_rfl) (fun _ _ _ h => h) (by rfl) ?_
          simp only [Act.put, List.getElem_toArray, List.getElem_cons_succ, List.getElem_cons_zero, List.setIfInBounds_toArray, List.set_cons_zero, List.set_cons_succ]
          refine Turns.skip hS 12 rfl (by kernel_rfl) (by kernel_rfl) (by kernel_rfl) (by kernel_rfl) (fun _ _ _ h => h) (by rfl) ?_
          simp only [Act.put, List.getElem_toArray, List.getElem_cons_succ, List.getElem_cons_zero, List.setIfInBounds_toArray, List.set_cons_zero, List.set_cons_succ]
          refine Turns.skip hS 13 rfl (by kernel_rfl) (by kernel_rfl) (by kernel_rfl) (by kernel_rfl) (fun _ _ _ h => h) (by rfl) ?_
          simp only [Act.put, List.getElem_toArray, List.getElem_cons_succ, List.getElem_cons_zero, List.setIfInBounds_toArray, List.set_cons_zero, List.set_cons_succ]
          refine Turns.skip hS 14 rfl (by kernel_rfl) (by kernel_rfl) (by kernel_rfl) (by kernel_rfl) (fun _ _ _ h => h) (by rfl) ?_
          simp only [Act.put, List.getElem_toArray, List.getElem_cons_succ, List.getElem_cons_zero, List.setIfInBounds_toArray, List.set_cons_zero, List.set_cons_succ]
          refine Turns.skip hS 15 rfl (by kernel_rfl) (by kernel_rfl) (by kernel_rfl) (by kernel_rfl) (fun _ _ _ h => h) (by rfl) ?_
          simp only [Act.put, List.getElem_toArray, List.getElem_cons_succ, List.getElem_cons_zero, List.setIfInBounds_toArray, List.set_cons_zero, List.set_cons_succ]
          refine Turns.skip hS 16 rfl (by kernel_rfl) (by kernel_rfl) (by kernel_rfl) (by kernel_rfl) (fun _ _ _ h => h) (by rfl) ?_
          simp only [Act.put, List.getElem_toArray, List.getElem_cons_succ, List.getElem_cons_zero, List.setIfInBounds_toArray, List.set_cons_zero, List.set_cons_succ]
          refine Turns.skip hS 17 rfl (by kernel_rfl) (by kernel_rfl) (by kernel_rfl) (by kernel_rfl) (fun _ _ _ h => h) (by rfl) ?_
          simp only [Act.put, List.getElem_toArray, List.getElem_cons_succ, List.getElem_cons_zero, List.setIfInBounds_toArray, List.set_cons_zero, List.set_cons_succ]
          refine Turns.take hS 18 _ rfl (by kernel_rfl) (by kernel_rfl) (by kernel_rfl) (by kernel_rfl) (fun _ _ _ h => h) (by rfl) (fun w' hS' => by (try dsimp only at hS'); go_split_ands; go_simp; (try with_reducible rfl)) ?_
          simp only [Act.put, List.getElem_toArray, List.getElem_cons_succ, List.getElem_cons_zero, List.setIfInBounds_toArray, List.set_cons_zero, List.set_cons_succ]
          refine Turns.take hS 19 _ rfl (by kernel_rfl) (by kernel_rfl) (by kernel_rfl) (by kernel_rfl) (fun _ _ _ h => h) (by rfl) (fun w' hS' => by (try dsimp only at hS'); go_split_ands; go_simp; (try with_reducible rfl)) ?_
          simp only [Act.put, List.getElem_toArray, List.getElem_cons_succ, List.getElem_cons_zero, List.setIfInBounds_toArray, List.set_cons_zero, List.set_cons_succ]
          refine Turns.rest (late_done (by kernel_rfl)) ?_
          refine any_tail 20 (by rfl) (by kernel_rfl) ?_
          simp only [List.drop_succ_cons, List.drop_zero]
          clear hS
          go_wp2
          go_ret
          exact ⟨rfl, HF.out.below⟩
        have p0 : decide (0 < Z') = true := decide_eq_true z0
        have m3 := m2 z0
        clear m2
        have d2 : decide (Z' < Z) = false := decide_eq_false (by omega)
        go_upto_region 7 with (fail)
        refine region_turns (fun (w' : World) => w'.cell? ⟨w.heap.size, 0, none⟩ = some (.int .i64 s0_0) ∧ w'.cell? ⟨w.heap.size, 1, none⟩ = some (.int .i64 s0_1) ∧ w'.cell? ⟨w.heap.size, 2, none⟩ = some (.int .i64 s0_2) ∧ w'.cell? ⟨w.heap.size, 3, none⟩ = some (.int .i64 s0_3) ∧ w'.cell? ⟨w.heap.size + 1, 0, none⟩ = some (.int .i64 s1_0) ∧ w'.cell? ⟨w.heap.size + 1, 1, none⟩ = some (.int .i64 s1_1) ∧ w'.cell? ⟨w.heap.size + 1, 2, none⟩ = some (.int .i64 s1_2) ∧ w'.cell? ⟨w.heap.size + 1, 3, none⟩ = some (.int .i64 s1_3) ∧ w'.cell? ⟨w.heap.size + 1 + 1, 0, none⟩ = some (.int .i64 s3_0) ∧ w'.cell? ⟨w.heap.size + 1 + 1, 1, none⟩ = some (.int .i64 s3_1) ∧ w'.cell? ⟨w.heap.size + 1 + 1, 2, none⟩ = some (.int .i64 s3_2) ∧ w'.cell? ⟨w.heap.size + 1 + 1, 3, none⟩ = some (.int .i64 s3_3) ∧ w'.cell? ⟨w.heap.size + 1 + 1, 4, none⟩ = some (.int .i64 s3_4) ∧ w'.cell? ⟨w.heap.size + 1 + 1 + 1, 0, none⟩ = some (.int .i64 s4_0) ∧ w'.cell? ⟨w.heap.size + 1 + 1 + 1, 1, none⟩ = some (.int .i64 s4_1) ∧ w'.cell? ⟨w.heap.size + 1 + 1 + 1, 2, none⟩ = some (.int .i64 s4_2) ∧ w'.cell? ⟨w.heap.size + 1 + 1 + 1, 3, none⟩ = some (.int .i64 s4_3) ∧ w'.cell? ⟨w.heap.size + 1 + 1 + 1, 4, none⟩ = some (.int .i64 s4_4) ∧ Four w 23 40 #[.int .i64 s0_0, .int .i64 s0_1, .int .i64 s0_2, .int .i64 s0_3] #[.int .i64 s1_0, .int .i64 s1_1, .int .i64 s1_2, .int .i64 s1_3] #[.int .i64 s3_0, .int .i64 s3_1, .int .i64 s3_2, .int .i64 s3_3, .int .i64 s3_4] #[.int .i64 s4_0, .int .i64 s4_1, .int .i64 s4_2, .int .i64 s4_3, .int .i64 s4_4] w') (fun j => decide (20 ≤ j)) (by kernel_rfl) (HF.out.drew.cells) (fun hS => ?_)
        refine Turns.take hS 0 _ rfl (by kernel_rfl) (by kernel_rfl) (by kernel_rfl) (by kernel_rfl) (fun _ _ _ h => h) (by rfl) (fun w' hS' => by (try dsimp only at hS'); go_split_ands; go_simp; (try with_reducible rfl)) ?_
        simp only [Act.put, List.getElem_toArray, List.getElem_cons_succ, List.getElem_cons_zero, List.setIfInBounds_toArray, List.set_cons_zero, List.set_cons_succ]
        refine Turns.take hS 2 _ rfl (by kernel_rfl) (by kernel_rfl) (by kernel_rfl) (by kernel_rfl) (fun _ _ _ h => h) (by rfl) (fun w' hS' => by (try dsimp only at hS'); go_split_ands; go_simp; (try with_reducible rfl)) ?_
        simp only [Act.put, List.getElem_toArray, List.getElem_cons_succ, List.getElem_cons_zero, List.setIfInBounds_toArray, List.set_cons_zero, List.set_cons_succ]
        refine Turns.next 1 rfl (by kernel_rfl) (by rfl) (fun K hK => ?_)
        go_simp
        go_at_call 27
        refine (hp _).mono ?_
        rintro e wn1 ⟨rfl, hb⟩
        replace HF := Lib.hid (hS.2.2.2.2.2.2.2.2.2.2.2.2.2.2.2.2.2.2.next hb)
        clear hb
        refine hK.out _ _ (show (fun (w' : World) => w'.cell? ⟨w.heap.size, 0, none⟩ = some (.int .i64 s0_0) ∧ w'.cell? ⟨w.heap.size, 1, none⟩ = some (.int .i64 s0_1) ∧ w'.cell? ⟨w.heap.size, 2, none⟩ = some (.int .i64 s0_2) ∧ w'.cell? ⟨w.heap.size, 3, none⟩ = some (.int .i64 s0_3) ∧ w'.cell? ⟨w.heap.size + 1, 0, none⟩ = some (.int .i64 s1_0) ∧ w'.cell? ⟨w.heap.size + 1, 1, none⟩ = some (.int .i64 s1_1) ∧ w'.cell? ⟨w.heap.size + 1, 2, none⟩ = some (.int .i64 s1_2) ∧ w'.cell? ⟨w.heap.size + 1, 3, none⟩ = some (.int .i64 s1_3) ∧ w'.cell? ⟨w.heap.size + 1 + 1, 0, none⟩ = some (.int .i64 s3_0) ∧ w'.cell? ⟨w.heap.size + 1 + 1, 1, none⟩ = some (.int .i64 s3_1) ∧ w'.cell? ⟨w.heap.size + 1 + 1, 2, none⟩ = some (.int .i64 s3_2) ∧ w'.cell? ⟨w.heap.size + 1 + 1, 3, none⟩ = some (.int .i64 s3_3) ∧ w'.cell? ⟨w.heap.size + 1 + 1, 4, none⟩ = some (.int .i64 s3_4) ∧ w'.cell? ⟨w.heap.size + 1 + 1 + 1, 0, none⟩ = some (.int .i64 s4_0) ∧ w'.cell? ⟨w.heap.size + 1 + 1 + 1, 1, none⟩ = some (.int .i64 s4_1) ∧ w'.cell? ⟨w.heap.size + 1 + 1 + 1, 2, none⟩ = some (.int .i64 s4_2) ∧ w'.cell? ⟨w.heap.size + 1 + 1 + 1, 3, none⟩ = some (.int .i64 s4_3) ∧ w'.cell? ⟨w.heap.size + 1 + 1 + 1, 4, none⟩ = some (.int .i64 s4_4) ∧ Four w 23 40 #[.int .i64 s0_0, .int .i64 s0_1, .int .i64 s0_2, .int .i64 s0_3] #[.int .i64 s1_0, .int .i64 s1_1, .int .i64 s1_2, .int .i64 s1_3] #[.int .i64 s3_0, .int .i64 s3_1, .int .i64 s3_2, .int .i64 s3_3, .int .i64 s3_4] #[.int .i64 s4_0, .int .i64 s4_1, .int .i64 s4_2, .int .i64 s4_3, .int .i64 s4_4] w') _ from HF.out.cells) ?_
        clear hK K hS
        have hS := (show (fun (w' : World) => w'.cell? ⟨w.heap.size, 0, none⟩ = some (.int .i64 s0_0) ∧ w'.cell? ⟨w.heap.size, 1, none⟩ = some (.int .i64 s0_1) ∧ w'.cell? ⟨w.heap.size, 2, none⟩ = some (.int .i64 s0_2) ∧ w'.cell? ⟨w.heap.size, 3, none⟩ = some (.int .i64 s0_3) ∧ w'.cell? ⟨w.heap.size + 1, 0, none⟩ = some (.int .i64 s1_0) ∧ w'.cell? ⟨w.heap.size + 1, 1, none⟩ = some (.int .i64 s1_1) ∧ w'.cell? ⟨w.heap.size + 1, 2, none⟩ = some (.int .i64 s1_2) ∧ w'.cell? ⟨w.heap.size + 1, 3, none⟩ = some (.int .i64 s1_3) ∧ w'.cell? ⟨w.heap.size + 1 + 1, 0, none⟩ = some (.int .i64 s3_0) ∧ w'.cell? ⟨w.heap.size + 1 + 1, 1, none⟩ = some (.int .i64 s3_1) ∧ w'.cell? ⟨w.heap.size + 1 + 1, 2, none⟩ = some (.int .i64 s3_2) ∧ w'.cell? ⟨w.heap.size + 1 + 1, 3, none⟩ = some (.int .i64 s3_3) ∧ w'.cell? ⟨w.heap.size + 1 + 1, 4, none⟩ = some (.int .i64 s3_4) ∧ w'.cell? ⟨w.heap.size + 1 + 1 + 1, 0, none⟩ = some (.int .i64 s4_0) ∧ w'.cell? ⟨w.heap.size + 1 + 1 + 1, 1, none⟩ = some (.int .i64 s4_1) ∧ w'.cell? ⟨w.heap.size + 1 + 1 + 1, 2, none⟩ = some (.int .i64 s4_2) ∧ w'.cell? ⟨w.heap.size + 1 + 1 + 1, 3, none⟩ = some (.int .i64 s4_3) ∧ w'.cell? ⟨w.heap.size + 1 + 1 + 1, 4, none⟩ = some (.int .i64 s4_4) ∧ Four w 23 40 #[.int .i64 s0_0, .int .i64 s0_1, .int .i64 s0_2, .int .i64 s0_3] #[.int .i64 s1_0, .int .i64 s1_1, .int .i64 s1_2, .int .i64 s1_3] #[.int .i64 s3_0, .int .i64 s3_1, .int .i64 s3_2, .int .i64 s3_3, .int .i64 s3_4] #[.int .i64 s4_0, .int .i64 s4_1, .int .i64 s4_2, .int .i64 s4_3, .int .i64 s4_4] w') _ from HF.out.cells)
        refine Turns.next 3 rfl (by kernel_rfl) (by rfl) (fun K hK => ?_)
        go_simp
        go_at_call 27
        refine (hp' _).mono ?_
        rintro e wn3 ⟨rfl, hb⟩
        replace HF := Lib.hid (hS.2.2.2.2.2.2.2.2.2.2.2.2.2.2.2.2.2.2.next hb)
        clear hb
        refine hK.out _ _ (show (fun (w' : World) => w'.cell? ⟨w.heap.size, 0, none⟩ = some (.int .i64 s0_0) ∧ w'.cell? ⟨w.heap.size, 1, none⟩ = some (.int .i64 s0_1) ∧ w'.cell? ⟨w.heap.size, 2, none⟩ = some (.int .i64 s0_2) ∧ w'.cell? ⟨w.heap.size, 3, none⟩ = some (.int .i64 s0_3) ∧ w'.cell? ⟨w.heap.size + 1, 0, none⟩ = some (.int .i64 s1_0) ∧ w'.cell? ⟨w.heap.size + 1, 1, none⟩ = some (.int .i64 s1_1) ∧ w'.cell? ⟨w.heap.size + 1, 2, none⟩ = some (.int .i64 s1_2) ∧ w'.cell? ⟨w.heap.size + 1, 3, none⟩ = some (.int .i64 s1_3) ∧ w'.cell? ⟨w.heap.size + 1 + 1, 0, none⟩ = some (.int .i64 s3_0) ∧ w'.cell? ⟨w.heap.size + 1 + 1, 1, none⟩ = some (.int .i64 s3_1) ∧ w'.cell? ⟨w.heap.size + 1 + 1, 2, none⟩ = some (.int .i64 s3_2) ∧ w'.cell? ⟨w.heap.size + 1 + 1, 3, none⟩ = some (.int .i64 s3_3) ∧ w'.cell? ⟨w.heap.size + 1 + 1, 4, none⟩ = some (.int .i64 s3_4) ∧ w'.cell? ⟨w.heap.size + 1 + 1 + 1, 0, none⟩ = some (.int .i64 s4_0) ∧ w'.cell? ⟨w.heap.size + 1 + 1 + 1, 1, none⟩ = some (.int .i64 s4_1) ∧ w'.cell? ⟨w.heap.size + 1 + 1 + 1, 2, none⟩ = some (.int .i64 s4_2) ∧ w'.cell? ⟨w.heap.size + 1 + 1 + 1, 3, none⟩ = some (.int .i64 s4_3) ∧ w'.cell? ⟨w.heap.size + 1 + 1 + 1, 4, none⟩ = some (.int .i64 s4_4) ∧ Four w 23 40 #[.int .i64 s0_0, .int .i64 s0_1, .int .i64 s0_2, .int .i64 s0_3] #[.int .i64 s1_0, .int .i64 s1_1, .int .i64 s1_2, .int .i64 s1_3] #[.int .i64 s3_0, .int .i64 s3_1, .int .i64 s3_2, .int .i64 s3_3, .int .i64 s3_4] #[.int .i64 s4_0, .int .i64 s4_1, .int .i64 s4_2, .int .i64 s4_3, .int .i64 s4_4] w') _ from HF.out.cells) ?_
        clear hK K hS
        have hS := (show (fun (w' : World) => w'.cell? ⟨w.heap.size, 0, none⟩ = some (.int .i64 s0_0) ∧ w'.cell? ⟨w.heap.size, 1, none⟩ = some (.int .i64 s0_1) ∧ w'.cell? ⟨w.heap.size, 2, none⟩ = some (.int .i64 s0_2) ∧ w'.cell? ⟨w.heap.size, 3, none⟩ = some (.int .i64 s0_3) ∧ w'.cell? ⟨w.heap.size + 1, 0, none⟩ = some (.int .i64 s1_0) ∧ w'.cell? ⟨w.heap.size + 1, 1, none⟩ = some (.int .i64 s1_1) ∧ w'.cell? ⟨w.heap.size + 1, 2, none⟩ = some (.int .i64 s1_2) ∧ w'.cell? ⟨w.heap.size + 1, 3, none⟩ = some (.int .i64 s1_3) ∧ w'.cell? ⟨w.heap.size + 1 + 1, 0, none⟩ = some (.int .i64 s3_0) ∧ w'.cell? ⟨w.heap.size + 1 + 1, 1, none⟩ = some (.int .i64 s3_1) ∧ w'.cell? ⟨w.heap.size + 1 + 1, 2, none⟩ = some (.int .i64 s3_2) ∧ w'.cell? ⟨w.heap.size + 1 + 1, 3, none⟩ = some (.int .i64 s3_3) ∧ w'.cell? ⟨w.heap.size + 1 + 1, 4, none⟩ = some (.int .i64 s3_4) ∧ w'.cell? ⟨w.heap.size + 1 + 1 + 1, 0, none⟩ = some (.int .i64 s4_0) ∧ w'.cell? ⟨w.heap.size + 1 + 1 + 1, 1, none⟩ = some (.int .i64 s4_1) ∧ w'.cell? ⟨w.heap.size + 1 + 1 + 1, 2, none⟩ = some (.int .i64 s4_2) ∧ w'.cell? ⟨w.heap.size + 1 + 1 + 1, 3, none⟩ = some (.int .i64 s4_3) ∧ w'.cell? ⟨w.heap.size + 1 + 1 + 1, 4, none⟩ = some (.int .i64 s4_4) ∧ Four w 23 40 #[.int .i64 s0_0, .int .i64 s0_1, .int .i64 s0_2, .int .i64 s0_3] #[.int .i64 s1_0, .int .i64 s1_1, .int .i64 s1_2, .int .i64 s1_3] #[.int .i64 s3_0, .int .i64 s3_1, .int .i64 s3_2, .int .i64 s3_3, .int .i64 s3_4] #[.int .i64 s4_0, .int .i64 s4_1, .int .i64 s4_2, .int .i64 s4_3, .int .i64 s4_4] w') _ from HF.out.cells)
        refine Turns.take hS 4 _ rfl (by kernel_rfl) (by kernel_rfl) (by kernel_rfl) (by kernel_rfl) (fun _ _ _ h => h) (by rfl) (fun w' hS' => by (try dsimp only at hS'); go_split_ands; go_simp; (try with_reducible rfl)) ?_
        simp only [Act.put, List.getElem_toArray, List.getElem_cons_succ, List.getElem_cons_zero, List.setIfInBounds_toArray, List.set_cons_zero, List.set_cons_succ]
        refine Turns.take hS 5 _ rfl (by kernel_rfl) (by kernel_rfl) (by kernel_rfl) (by kernel_rfl) (fun _ _ _ h => h) (by rfl) (fun w' hS' => by (try dsimp only at hS'); go_split_ands; go_simp; (try with_reducible rfl)) ?_
        simp only [Act.put, List.getElem_toArray, List.getElem_cons_succ, List.getElem_cons_zero, List.setIfInBounds_toArray, List.set_cons_zero, List.set_cons_succ]
        refine Turns.take hS 6 _ rfl (by kernel_rfl) (by kernel_rfl) (by kernel_rfl) (by kernel_rfl) (fun _ _ _ h => h) (by rfl) (fun w' hS' => by (try dsimp only at hS'); go_split_ands; go_simp; (try with_reducible rfl)) ?_
        simp only [Act.put, List.getElem_toArray, List.getElem_cons_succ, List.getElem_cons_zero, List.setIfInBounds_toArray, List.set_cons_zero, List.set_cons_succ]
        refine Turns.take hS 7 _ rfl (by kernel_rfl) (by kernel_rfl) (by kernel_rfl) (by kernel_rfl) (fun _ _ _ h => h) (by rfl) (fun w' hS' => by (try dsimp only at hS'); go_split_ands; go_simp; (try with_reducible rfl)) ?_
        simp only [Act.put, List.getElem_toArray, List.getElem_cons_succ, List.getElem_cons_zero, List.setIfInBounds_toArray, List.set_cons_zero, List.set_cons_succ]
        refine Turns.next 8 rfl (by kernel_rfl) (by rfl) (fun K hK => ?_)
        go_simp
        go_at_call 28
        refine (hs' _).mono ?_
        rintro e wn8 ⟨rfl, hb⟩
        replace HF := Lib.hid (hS.2.2.2.2.2.2.2.2.2.2.2.2.2.2.2.2.2.2.next hb)
        clear hb
        refine hK.out _ _ (show (fun (w' : World) => w'.cell? ⟨w.heap.size, 0, none⟩ = some (.int .i64 s0_0) ∧ w'.cell? ⟨w.heap.size, 1, none⟩ = some (.int .i64 s0_1) ∧ w'.cell? ⟨w.heap.size, 2, none⟩ = some (.int .i64 s0_2) ∧ w'.cell? ⟨w.heap.size, 3, none⟩ = some (.int .i64 s0_3) ∧ w'.cell? ⟨w.heap.size + 1, 0, none⟩ = some (.int .i64 s1_0) ∧ w'.cell? ⟨w.heap.size + 1, 1, none⟩ = some (.int .i64 s1_1) ∧ w'.cell? ⟨w.heap.size + 1, 2, none⟩ = some (.int .i64 s1_2) ∧ w'.cell? ⟨w.heap.size + 1, 3, none⟩ = some (.int .i64 s1_3) ∧ w'.cell? ⟨w.heap.size + 1 + 1, 0, none⟩ = some (.int .i64 s3_0) ∧ w'.cell? ⟨w.heap.size + 1 + 1, 1, none⟩ = some (.int .i64 s3_1) ∧ w'.cell? ⟨w.heap.size + 1 + 1, 2, none⟩ = some (.int .i64 s3_2) ∧ w'.cell? ⟨w.heap.size + 1 + 1, 3, none⟩ = some (.int .i64 s3_3) ∧ w'.cell? ⟨w.heap.size + 1 + 1, 4, none⟩ = some (.int .i64 s3_4) ∧ w'.cell? ⟨w.heap.size + 1 + 1 + 1, 0, none⟩ = some (.int .i64 s4_0) ∧ w'.cell? ⟨w.heap.size + 1 + 1 + 1, 1, none⟩ = some (.int .i64 s4_1) ∧ w'.cell? ⟨w.heap.size + 1 + 1 + 1, 2, none⟩ = some (.int .i64 s4_2) ∧ w'.cell? ⟨w.heap.size + 1 + 1 + 1, 3, none⟩ = some (.int .i64 s4_3) ∧ w'.cell? ⟨w.heap.size + 1 + 1 + 1, 4, none⟩ = some (.int .i64 s4_4) ∧ Four w 23 40 #[.int .i64 s0_0, .int .i64 s0_1, .int .i64 s0_2, .int .i64 s0_3] #[.int .i64 s1_0, .int .i64 s1_1, .int .i64 s1_2, .int .i64 s1_3] #[.int .i64 s3_0, .int .i64 s3_1, .int .i64 s3_2, .int .i64 s3_3, .int .i64 s3_4] #[.int .i64 s4_0, .int .i64 s4_1, .int .i64 s4_2, .int .i64 s4_3, .int .i64 s4_4] w') _ from HF.out.cells) ?_
        clear hK K hS
        have hS := (show (fun (w' : World) => w'.cell? ⟨w.heap.size, 0, none⟩ = some (.int .i64 s0_0) ∧ w'.cell? ⟨w.heap.size, 1, none⟩ = some (.int .i64 s0_1) ∧ w'.cell? ⟨w.heap.size, 2, none⟩ = some (.int .i64 s0_2) ∧ w'.cell? ⟨w.heap.size, 3, none⟩ = some (.int .i64 s0_3) ∧ w'.cell? ⟨w.heap.size + 1, 0, none⟩ = some (.int .i64 s1_0) ∧ w'.cell? ⟨w.heap.size + 1, 1, none⟩ = some (.int .i64 s1_1) ∧ w'.cell? ⟨w.heap.size + 1, 2, none⟩ = some (.int .i64 s1_2) ∧ w'.cell? ⟨w.heap.size + 1, 3, none⟩ = some (.int .i64 s1_3) ∧ w'.cell? ⟨w.heap.size + 1 + 1, 0, none⟩ = some (.int .i64 s3_0) ∧ w'.cell? ⟨w.heap.size + 1 + 1, 1, none⟩ = some (.int .i64 s3_1) ∧ w'.cell? ⟨w.heap.size + 1 + 1, 2, none⟩ = some (.int .i64 s3_2) ∧ w'.cell? ⟨w.heap.size + 1 + 1, 3, none⟩ = some (.int .i64 s3_3) ∧ w'.cell? ⟨w.heap.size + 1 + 1, 4, none⟩ = some (.int .i64 s3_4) ∧ w'.cell? ⟨w.heap.size + 1 + 1 + 1, 0, none⟩ = some (.int .i64 s4_0) ∧ w'.cell? ⟨w.heap.size + 1 + 1 + 1, 1, none⟩ = some (.int .i64 s4_1) ∧ w'.cell? ⟨w.heap.size + 1 + 1 + 1, 2, none⟩ = some (.int .i64 s4_2) ∧ w'.cell? ⟨w.heap.size + 1 + 1 + 1, 3, none⟩ = some (.int .i64 s4_3) ∧ w'.cell? ⟨w.heap.size + 1 + 1 + 1, 4, none⟩ = some (.int .i64 s4_4) ∧ Four w 23 40 #[.int .i64 s0_0, .int .i64 s0_1, .int .i64 s0_2, .int .i64 s0_3] #[.int .i64 s1_0, .int .i64 s1_1, .int .i64 s1_2, .int .i64 s1_3] #[.int .i64 s3_0, .int .i64 s3_1, .int .i64 s3_2, .int .i64 s3_3, .int .i64 s3_4] #[.int .i64 s4_0, .int .i64 s4_1, .int .i64 s4_2, .int .i64 s4_3, .int .i64 s4_4] w') _ from HF.out.cells)
        refine Turns.take hS 9 _ rfl (by kernel_rfl) (by kernel_rfl) (by kernel_rfl) (by kernel_rfl) (fun _ _ _ h => h) (by rfl) (fun w' hS' => by (try dsimp only at hS'); go_split_ands; go_simp; (try with_reducible rfl)) ?_
        simp only [Act.put, List.getElem_toArray, List.getElem_cons_succ, List.getElem_cons_zero, List.setIfInBounds_toArray, List.set_cons_zero, List.set_cons_succ]
        refine Turns.take hS 10 _ rfl (by kernel_rfl) (by kernel_rfl) (by kernel_rfl) (by kernel_rfl) (fun _ _ _ h => h) (by rfl) (fun w' hS' => by (try dsimp only at hS'); go_split_ands; go_simp; (try with_reducible rfl)) ?_
        simp only [Act.put, List.getElem_toArray, List.getElem_cons_succ, List.getElem_cons_zero, List.setIfInBounds_toArray, List.set_cons_zero, List.set_cons_succ]
        refine Turns.take hS 11 _ rfl (by kernel_rfl) (by kernel_rfl) (by kernel_rfl) (by kernel_rfl) (fun _ _ _ h => h) (by rfl) (fun w' hS' => by (try dsimp only at hS'); go_split_ands; go_simp; (try with_reducible rfl)) ?_
        simp only [Act.put, List.getElem_toArray, List.getElem_cons_succ, List.getElem_cons_zero, List.setIfInBounds_toArray, List.set_cons_zero, List.set_cons_succ]
        refine Turns.take hS 12 _ rfl (by kernel_rfl) (by kernel_rfl) (by kernel_rfl) (by kernel_rfl) (fun _ _ _ h => h) (by rfl) (fun w' hS' => by (try dsimp only at hS'); go_split_ands; go_simp; (try with_reducible rfl)) ?_
        simp only [Act.put, List.getElem_toArray, List.getElem_cons_succ, List.getElem_cons_zero, List.setIfInBounds_toArray, List.set_cons_zero, List.set_cons_succ]
        refine Turns.take hS 14 _ rfl (by kernel_rfl) (by kernel_rfl) (by kernel_rfl) (by kernel_rfl) (fun _ _ _ h => h) (by rfl) (fun w' hS' => by (try dsimp only at hS'); go_split_ands; go_simp; (try with_reducible rfl)) ?_
        simp only [Act.put, List.getElem_toArray, List.getElem_cons_succ, List.getElem_cons_zero, List.setIfInBounds_toArray, List.set_cons_zero, List.set_cons_succ]
        refine Turns.take hS 15 _ rfl (by kernel_rfl) (by kernel_rfl) (by kernel_rfl) (by kernel_rfl) (fun _ _ _ h => h) (by rfl) (fun w' hS' => by (try dsimp only at hS'); go_split_ands; go_simp; (try with_reducible rfl)) ?_
        simp only [Act.put, List.getElem_toArray, List.getElem_cons_succ, List.getElem_cons_zero, List.setIfInBounds_toArray, List.set_cons_zero, List.set_cons_succ]
        refine Turns.next 13 rfl (by kernel_rfl) (by rfl) (fun K hK => ?_)
        go_simp
        go_at_call 28
        refine (hs _).mono ?_
        rintro e wn13 ⟨rfl, hb⟩
        replace HF := Lib.hid (hS.2.2.2.2.2.2.2.2.2.2.2.2.2.2.2.2.2.2.next hb)
        clear hb
        refine hK.out _ _ (show (fun (w' : World) => w'.cell? ⟨w.heap.size, 0, none⟩ = some (.int .i64 s0_0) ∧ w'.cell? ⟨w.heap.size, 1, none⟩ = some (.int .i64 s0_1) ∧ w'.cell? ⟨w.heap.size, 2, none⟩ = some (.int .i64 s0_2) ∧ w'.cell? ⟨w.heap.size, 3, none⟩ = some (.int .i64 s0_3) ∧ w'.cell? ⟨w.heap.size + 1, 0, none⟩ = some (.int .i64 s1_0) ∧ w'.cell? ⟨w.heap.size + 1, 1, none⟩ = some (.int .i64 s1_1) ∧ w'.cell? ⟨w.heap.size + 1, 2, none⟩ = some (.int .i64 s1_2) ∧ w'.cell? ⟨w.heap.size + 1, 3, none⟩ = some (.int .i64 s1_3) ∧ w'.cell? ⟨w.heap.size + 1 + 1, 0, none⟩ = some (.int .i64 s3_0) ∧ w'.cell? ⟨w.heap.size + 1 + 1, 1, none⟩ = some (.int .i64 s3_1) ∧ w'.cell? ⟨w.heap.size + 1 + 1, 2, none⟩ = some (.int .i64 s3_2) ∧ w'.cell? ⟨w.heap.size + 1 + 1, 3, none⟩ = some (.int .i64 s3_3) ∧ w'.cell? ⟨w.heap.size + 1 + 1, 4, none⟩ = some (.int .i64 s3_4) ∧ w'.cell? ⟨w.heap.size + 1 + 1 + 1, 0, none⟩ = some (.int .i64 s4_0) ∧ w'.cell? ⟨w.heap.size + 1 + 1 + 1, 1, none⟩ = some (.int .i64 s4_1) ∧ w'.cell? ⟨w.heap.size + 1 + 1 + 1, 2, none⟩ = some (.int .i64 s4_2) ∧ w'.cell? ⟨w.heap.size + 1 + 1 + 1, 3, none⟩ = some (.int .i64 s4_3) ∧ w'.cell? ⟨w.heap.size + 1 + 1 + 1, 4, none⟩ = some (.int .i64 s4_4) ∧ Four w 23 40 #[.int .i64 s0_0, .int .i64 s0_1, .int .i64 s0_2, .int .i64 s0_3] #[.int .i64 s1_0, .int .i64 s1_1, .int .i64 s1_2, .int .i64 s1_3] #[.int .i64 s3_0, .int .i64 s3_1, .int .i64 s3_2, .int .i64 s3_3, .int .i64 s3_4] #[.int .i64 s4_0, .int .i64 s4_1, .int .i64 s4_2, .int .i64 s4_3, .int .i64 s4_4] w') _ from HF.out.cells) ?_
        clear hK K hS
        have hS := (show (fun (w' : World) => w'.cell? ⟨w.heap.size, 0, none⟩ = some (.int .i64 s0_0) ∧ w'.cell? ⟨w.heap.size, 1, none⟩ = some (.int .i64 s0_1) ∧ w'.cell? ⟨w.heap.size, 2, none⟩ = some (.int .i64 s0_2) ∧ w'.cell? ⟨w.heap.size, 3, none⟩ = some (.int .i64 s0_3) ∧ w'.cell? ⟨w.heap.size + 1, 0, none⟩ = some (.int .i64 s1_0) ∧ w'.cell? ⟨w.heap.size + 1, 1, none⟩ = some (.int .i64 s1_1) ∧ w'.cell? ⟨w.heap.size + 1, 2, none⟩ = some (.int .i64 s1_2) ∧ w'.cell? ⟨w.heap.size + 1, 3, none⟩ = some (.int .i64 s1_3) ∧ w'.cell? ⟨w.heap.size + 1 + 1, 0, none⟩ = some (.int .i64 s3_0) ∧ w'.cell? ⟨w.heap.size + 1 + 1, 1, none⟩ = some (.int .i64 s3_1) ∧ w'.cell? ⟨w.heap.size + 1 + 1, 2, none⟩ = some (.int .i64 s3_2) ∧ w'.cell? ⟨w.heap.size + 1 + 1, 3, none⟩ = some (.int .i64 s3_3) ∧ w'.cell? ⟨w.heap.size + 1 + 1, 4, none⟩ = some (.int .i64 s3_4) ∧ w'.cell? ⟨w.heap.size + 1 + 1 + 1, 0, none⟩ = some (.int .i64 s4_0) ∧ w'.cell? ⟨w.heap.size + 1 + 1 + 1, 1, none⟩ = some (.int .i64 s4_1) ∧ w'.cell? ⟨w.heap.size + 1 + 1 + 1, 2, none⟩ = some (.int .i64 s4_2) ∧ w'.cell? ⟨w.heap.size + 1 + 1 + 1, 3, none⟩ = some (.int .i64 s4_3) ∧ w'.cell? ⟨w.heap.size + 1 + 1 + 1, 4, none⟩ = some (.int .i64 s4_4) ∧ Four w 23 40 #[.int .i64 s0_0, .int .i64 s0_1, .int .i64 s0_2, .int .i64 s0_3] #[.int .i64 s1_0, .int .i64 s1_1, .int .i64 s1_2, .int .i64 s1_3] #[.int .i64 s3_0, .int .i64 s3_1, .int .i64 s3_2, .int .i64 s3_3, .int .i64 s3_4] #[.int .i64 s4_0, .int .i64 s4_1, .int .i64 s4_2, .int .i64 s4_3, .int .i64 s4_4] w') _ from HF.out.cells)
        refine Turns.next 16 rfl (by kernel_rfl) (by rfl) (fun K hK => ?_)
        go_simp
        go_at_call 28
        refine (hs' _).mono ?_
        rintro e wn16 ⟨rfl, hb⟩
        replace HF := Lib.hid (hS.2.2.2.2.2.2.2.2.2.2.2.2.2.2.2.2.2.2.next hb)
        clear hb
        refine hK.out _ _ (show (fun (w' : World) => w'.cell? ⟨w.heap.size, 0, none⟩ = some (.int .i64 s0_0) ∧ w'.cell? ⟨w.heap.size, 1, none⟩ = some (.int .i64 s0_1) ∧ w'.cell? ⟨w.heap.size, 2, none⟩ = some (.int .i64 s0_2) ∧ w'.cell? ⟨w.heap.size, 3, none⟩ = some (.int .i64 s0_3) ∧ w'.cell? ⟨w.heap.size + 1, 0, none⟩ = some (.int .i64 s1_0) ∧ w'.cell? ⟨w.heap.size + 1, 1, none⟩ = some (.int .i64 s1_1) ∧ w'.cell? ⟨w.heap.size + 1, 2, none⟩ = some (.int .i64 s1_2) ∧ w'.cell? ⟨w.heap.size + 1, 3, none⟩ = some (.int .i64 s1_3) ∧ w'.cell? ⟨w.heap.size + 1 + 1, 0, none⟩ = some (.int .i64 s3_0) ∧ w'.cell? ⟨w.heap.size + 1 + 1, 1, none⟩ = some (.int .i64 s3_1) ∧ w'.cell? ⟨w.heap.size + 1 + 1, 2, none⟩ = some (.int .i64 s3_2) ∧ w'.cell? ⟨w.heap.size + 1 + 1, 3, none⟩ = some (.int .i64 s3_3) ∧ w'.cell? ⟨w.heap.size + 1 + 1, 4, none⟩ = some (.int .i64 s3_4) ∧ w'.cell? ⟨w.heap.size + 1 + 1 + 1, 0, none⟩ = some (.int .i64 s4_0) ∧ w'.cell? ⟨w.heap.size + 1 + 1 + 1, 1, none⟩ = some (.int .i64 s4_1) ∧ w'.cell? ⟨w.heap.size + 1 + 1 + 1, 2, none⟩ = some (.int .i64 s4_2) ∧ w'.cell? ⟨w.heap.size + 1 + 1 + 1, 3, none⟩ = some (.int .i64 s4_3) ∧ w'.cell? ⟨w.heap.size + 1 + 1 + 1, 4, none⟩ = some (.int .i64 s4_4) ∧ Four w 23 40 #[.int .i64 s0_0, .int .i64 s0_1, .int .i64 s0_2, .int .i64 s0_3] #[.int .i64 s1_0, .int .i64 s1_1, .int .i64 s1_2, .int .i64 s1_3] #[.int .i64 s3_0, .int .i64 s3_1, .int .i64 s3_2, .int .i64 s3_3, .int .i64 s3_4] #[.int .i64 s4_0, .int .i64 s4_1, .int .i64 s4_2, .int .i64 s4_3, .int .i64 s4_4] w') _ from HF.out.cells) ?_
        clear hK K hS
        have hS := (show (fun (w' : World) => w'.cell? ⟨w.heap.size, 0, none⟩ = some (.int .i64 s0_0) ∧ w'.cell? ⟨w.heap.size, 1, none⟩ = some (.int .i64 s0_1) ∧ w'.cell? ⟨w.heap.size, 2, none⟩ = some (.int .i64 s0_2) ∧ w'.cell? ⟨w.heap.size, 3, none⟩ = some (.int .i64 s0_3) ∧ w'.cell? ⟨w.heap.size + 1, 0, none⟩ = some (.int .i64 s1_0) ∧ w'.cell? ⟨w.heap.size + 1, 1, none⟩ = some (.int .i64 s1_1) ∧ w'.cell? ⟨w.heap.size + 1, 2, none⟩ = some (.int .i64 s1_2) ∧ w'.cell? ⟨w.heap.size + 1, 3, none⟩ = some (.int .i64 s1_3) ∧ w'.cell? ⟨w.heap.size + 1 + 1, 0, none⟩ = some (.int .i64 s3_0) ∧ w'.cell? ⟨w.heap.size + 1 + 1, 1, none⟩ = some (.int .i64 s3_1) ∧ w'.cell? ⟨w.heap.size + 1 + 1, 2, none⟩ = some (.int .i64 s3_2) ∧ w'.cell? ⟨w.heap.size + 1 + 1, 3, none⟩ = some (.int .i64 s3_3) ∧ w'.cell? ⟨w.heap.size + 1 + 1, 4, none⟩ = some (.int .i64 s3_4) ∧ w'.cell? ⟨w.heap.size + 1 + 1 + 1, 0, none⟩ = some (.int .i64 s4_0) ∧ w'.cell? ⟨w.heap.size + 1 + 1 + 1, 1, none⟩ = some (.int .i64 s4_1) ∧ w'.cell? ⟨w.heap.size + 1 + 1 + 1, 2, none⟩ = some (.int .i64 s4_2) ∧ w'.cell? ⟨w.heap.size + 1 + 1 + 1, 3, none⟩ = some (.int .i64 s4_3) ∧ w'.cell? ⟨w.heap.size + 1 + 1 + 1, 4, none⟩ = some (.int .i64 s4_4) ∧ Four w 23 40 #[.int .i64 s0_0, .int .i64 s0_1, .int .i64 s0_2, .int .i64 s0_3] #[.int .i64 s1_0, .int .i64 s1_1, .int .i64 s1_2, .int .i64 s1_3] #[.int .i64 s3_0, .int .i64 s3_1, .int .i64 s3_2, .int .i64 s3_3, .int .i64 s3_4] #[.int .i64 s4_0, .int .i64 s4_1, .int .i64 s4_2, .int .i64 s4_3, .int .i64 s4_4] w') _ from HF.out.cells)
        refine Turns.take hS 17 _ rfl (by kernel_rfl) (by kernel_rfl) (by kernel_rfl) (by kernel_rfl) (fun _ _ _ h => h) (by rfl) (fun w' hS' => by (try dsimp only at hS'); go_split_ands; go_simp; (try with_reducible rfl)) ?_
        simp only [Act.put, List.getElem_toArray, List.getElem_cons_succ, List.getElem_cons_zero, List.setIfInBounds_toArray, List.set_cons_zero, List.set_cons_succ]
        refine Turns.take hS 18 _ rfl (by kernel_rfl) (by kernel_rfl) (by kernel_rfl) (by kernel_rfl) (fun _ _ _ h => h) (by rfl) (fun w' hS' => by (try dsimp only at hS'); go_split_ands; go_simp; (try with_reducible rfl)) ?_
        simp only [Act.put, List.getElem_toArray, List.getElem_cons_succ, List.getElem_cons_zero, List.setIfInBounds_toArray, List.set_cons_zero, List.set_cons_succ]
        refine Turns.take hS 19 _ rfl (by kernel_rfl) (by kernel_rfl) (by kernel_rfl) (by kernel_rfl) (fun _ _ _ h => h) (by rfl) (fun w' hS' => by (try dsimp only at hS'); go_split_ands; go_simp; (try with_reducible rfl)) ?_
        simp only [Act.put, List.getElem_toArray, List.getElem_cons_succ, List.getElem_cons_zero, List.setIfInBounds_toArray, List.set_cons_zero, List.set_cons_succ]
        refine Turns.rest (late_done (by kernel_rfl)) ?_
        refine any_tail 20 (by rfl) (by kernel_rfl) ?_
        simp only [List.drop_succ_cons, List.drop_zero]
        clear hS
        go_wp2
        go_ret
        exact ⟨rfl, HF.out.below⟩

set_option maxRecDepth 100000 in
theorem lifted (os : Os) (started : os.Started) (H : Type) (enc : TypeId × Value → H) :
    ReturnsInHanded {} Try.checked os 6 .any (Rows.boundGrowsSpec.pre6 enc Try.prog Try.f6 Rows.boundGrowsRow.domain false) (Rows.boundGrowsSpec.post enc Try.prog Try.f6 false true false false) := by
  refine returnsInHanded_of_change (C := Try.checked) own started (by kernel_rfl) Try.func6
    (ChangeSpec.witness6 (enc := enc) (C := Try.checked) false ⟨#[], #[.agg #[.int .i64 0, .int .i64 0, .int .i64 0, .int .i64 0], .agg #[.int .i64 0, .int .i64 0, .int .i64 0, .int .i64 0], .int .i64 0, .agg #[.int .i64 0, .int .i64 0, .int .i64 0, .int .i64 0, .int .i64 0], .agg #[.int .i64 0, .int .i64 0, .int .i64 0, .int .i64 0, .int .i64 0], .int .i64 0], []⟩ 8 (by kernel_rfl) (by kernel_rfl) (by kernel_rfl) (by kernel_rfl)) ?_
  intro W base args ds gs before hval0 hW hcnd _
  have hval : ∀ (j : Nat) t v, Try.f6.params[j]? = some t → args[j]? = some v → Value.okWide Try.prog W .any base t v := hval0
  have hW' := hW
  obtain ⟨p, q, hA0, hV, rfl, hfz, hnd⟩ := hW
  have hA : DataW.TrodAll enc Try.prog W 0 (fun _ => true) true Try.f6.params.toList args.toList ds p := hA0
  have hAk := hA
  rw [Try.params6] at hA hval
  obtain ⟨v0, vs0, d0, ds0, p0, q0, hargs, rfl, hp, h0, r0⟩ := trodAll_cons hA
  obtain ⟨v1, vs1, d1, ds1, p1, q1, rfl, rfl, rfl, h1, r1⟩ := trodAll_cons r0
  obtain ⟨v2, vs2, d2, ds2, p2, q2, rfl, rfl, rfl, h2, r2⟩ := trodAll_cons r1
  obtain ⟨v3, vs3, d3, ds3, p3, q3, rfl, rfl, rfl, h3, r3⟩ := trodAll_cons r2
  obtain ⟨v4, vs4, d4, ds4, p4, q4, rfl, rfl, rfl, h4, r4⟩ := trodAll_cons r3
  obtain ⟨v5, vs5, d5, ds5, p5, q5, rfl, rfl, rfl, h5, r5⟩ := trodAll_cons r4
  obtain ⟨rfl, rfl, rfl⟩ := trodAll_nil r5
  obtain rfl : args = #[v0, v1, v2, v3, v4, v5] := by cases args; simp_all
  obtain ⟨rfl, rfl⟩ := trodVars_none hV
  clear hA0 hval0 hargs
  simp only [List.append_nil] at hW'
  have hend : ∀ W' : World, Below W.heap.size W W' → Rows.boundGrowsSpec.post enc Try.prog Try.f6 false true false false W #[v0, v1, v2, v3, v4, v5] (.bool true) W' := fun W' hb =>
    law_post (tb := 4) hW' hAk rfl (by kernel_rfl) (by kernel_rfl) (by kernel_rfl) Try.underlying4 rfl rfl rfl hb
  clear hW' hAk hp
  obtain ⟨ns0, rfl, hl0, hw0⟩ := ints_struct (ks := [.i64, .i64, .i64, .i64]) Try.underlying23 (by kernel_rfl) (by kernel_rfl) (by kernel_rfl) (hval 0 23 v0 rfl rfl) h0
  obtain ⟨s0_0, s0_1, s0_2, s0_3, rfl⟩ := split4 hl0
  clear hl0
  obtain ⟨ns1, rfl, hl1, hw1⟩ := ints_struct (ks := [.i64, .i64, .i64, .i64]) Try.underlying23 (by kernel_rfl) (by kernel_rfl) (by kernel_rfl) (hval 1 23 v1 rfl rfl) h1
  obtain ⟨s1_0, s1_1, s1_2, s1_3, rfl⟩ := split4 hl1
  clear hl1
  obtain ⟨a2, rfl, rfl, rfl, w2⟩ := open_int Try.underlying3 (hval 2 3 v2 rfl rfl) h2
  obtain ⟨ns3, rfl, hl3, hw3⟩ := ints_struct (ks := [.i64, .i64, .i64, .i64, .i64]) Try.underlying40 (by kernel_rfl) (by kernel_rfl) (by kernel_rfl) (hval 3 40 v3 rfl rfl) h3
  obtain ⟨s3_0, s3_1, s3_2, s3_3, s3_4, rfl⟩ := split5 hl3
  clear hl3
  obtain ⟨ns4, rfl, hl4, hw4⟩ := ints_struct (ks := [.i64, .i64, .i64, .i64, .i64]) Try.underlying40 (by kernel_rfl) (by kernel_rfl) (by kernel_rfl) (hval 4 40 v4 rfl rfl) h4
  obtain ⟨s4_0, s4_1, s4_2, s4_3, s4_4, rfl⟩ := split5 hl4
  clear hl4
  obtain ⟨a5, rfl, rfl, rfl, w5⟩ := open_int Try.underlying3 (hval 5 3 v5 rfl rfl) h5
  refine (walk s0_0 s0_1 s0_2 s0_3 s1_0 s1_1 s1_2 s1_3 a2 s3_0 s3_1 s3_2 s3_3 s3_4 s4_0 s4_1 s4_2 s4_3 s4_4 a5 W (hw0 0 _ _ rfl rfl) (hw0 1 _ _ rfl rfl) (hw0 2 _ _ rfl rfl) (hw0 3 _ _ rfl rfl) (hw1 0 _ _ rfl rfl) (hw1 1 _ _ rfl rfl) (hw1 2 _ _ rfl rfl) (hw1 3 _ _ rfl rfl) w2 (hw3 0 _ _ rfl rfl) (hw3 1 _ _ rfl rfl) (hw3 2 _ _ rfl rfl) (hw3 3 _ _ rfl rfl) (hw3 4 _ _ rfl rfl) (hw4 0 _ _ rfl rfl) (hw4 1 _ _ rfl rfl) (hw4 2 _ _ rfl rfl) (hw4 3 _ _ rfl rfl) (hw4 4 _ _ rfl rfl) w5).mono fun e W' ⟨he, hg⟩ => ?_
  subst he
  exact ⟨_, rfl, hend W' hg⟩

theorem over : Rows.boundGrowsRow.holds Try.pinned (OpenSpec.ofChange Rows.boundGrowsSpec) :=
  OpenClaim.holds_of_wide 6 Try.f6 rfl rfl rfl rfl rfl rfl rfl ⟨rfl, rfl, rfl, rfl, rfl⟩ rfl rfl rfl rfl rfl (by kernel_rfl) Try.func6 (by kernel_rfl)
    (of_decide_eq_true (by kernel_rfl)) (by unfold Func.isWrapper; first | (rw [if_pos (by decide +kernel)]; kernel_rfl) | (rw [if_neg (by decide +kernel)]; exact ⟨rfl, rfl⟩))
    (fun os started H enc _ => lifted os started H enc)

/-- THE STATEMENT -/
theorem proved : Rows.BoundGrowsSaid :=
  over
#print axioms proved
end Go.Proofs.Ytgcmeoogmjganaa.boundGrows

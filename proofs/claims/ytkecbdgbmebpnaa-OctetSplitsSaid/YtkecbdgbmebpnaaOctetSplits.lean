/-
  Two numbers that are read one behind the other, first and second bytes long, are the one that is read at once of first and second bytes, for all bytes (of more than a hundred, or where the sizes do not fit, the law says nothing), wherever the reading begins; and both eyes have as many bytes left.
  The walk is the prover's own; the frame of the row's step follows the kit's template.
-/
import Derived.Test.YtkecbdgbmebpnaaRows
import Derived.Test.YtkecbdgbmebpnaaLawKit
import Derived.Test.YtkecbdgbmebpnaaOctF
namespace Go.Proofs.Ytkecbdgbmebpnaa.octetSplits
open Go.ChangeShapes Go.WideShapes Go.ChangeAt Go.RowKit Go.ChangeMaps Go.WideElems
set_option linter.unusedVariables false

theorem own : ownKnob Try.prog.godebug = none := by kernel_rfl
theorem in_row {zs : List Int} (h : ∀ n ∈ zs, (Lit.int .u8 n).wf = true) (i k : Nat) (hk : k ≤ 8) : 0 ≤ getB ((zs.drop i).take k) ∧ getB ((zs.drop i).take k) < 18446744073709551616 :=
  get_lt _ (fun z hz => f8s h z (List.mem_of_mem_drop (List.mem_of_mem_take hz))) (by rw [List.length_take]; omega)
theorem in_row' {zs : List Int} (h : ∀ n ∈ zs, (Lit.int .u8 n).wf = true) (i k : Nat) (hk : i + k ≤ zs.length) : getB ((zs.drop i).take k) < 256 ^ k := by
  have h1 := (get_le ((zs.drop i).take k) (fun z hz => f8s h z (List.mem_of_mem_drop (List.mem_of_mem_take hz)))).2
  have e : ((zs.drop i).take k).length = k := by rw [List.length_take, List.length_drop]; omega
  rw [e] at h1
  exact h1
set_option maxHeartbeats 4000000 in
set_option maxRecDepth 100000 in
theorem walk (A0 : Option Addr) (n0 c0 : Nat) (z0 : List Int) (a1 : Int) (a2 : Int) (a3 : Int) (w : World) (w0 : IntRow w .u8 A0 n0 c0 z0) (w1 : (Lit.int .i64 a1).wf = true) (w2 : (Lit.int .i64 a2).wf = true) (w3 : (Lit.int .i64 a3).wf = true) :
    Calls Try.prog 4 #[.slice A0 n0 c0, .int .i64 a1, .int .i64 a2, .int .i64 a3] w fun e w' => e = .returned (.bool true) ∧ Below w.heap.size w w' := by
  obtain ⟨p1, q1⟩ := fits_wf w1
  obtain ⟨p2, q2⟩ := fits_wf w2
  obtain ⟨p3, q3⟩ := fits_wf w3
  have hcase : 100 < n0 ∨ (n0 ≤ 100 ∧ a1 < 0) ∨ (n0 ≤ 100 ∧ 0 ≤ a1 ∧ 8 < a1) ∨ (n0 ≤ 100 ∧ 0 ≤ a1 ∧ a1 ≤ 8 ∧ a2 < 0) ∨ (n0 ≤ 100 ∧ 0 ≤ a1 ∧ a1 ≤ 8 ∧ 0 ≤ a2 ∧ 8 < a2) ∨
      (n0 ≤ 100 ∧ 0 ≤ a1 ∧ a1 ≤ 8 ∧ 0 ≤ a2 ∧ a2 ≤ 8 ∧ a3 < 0) ∨ (n0 ≤ 100 ∧ 0 ≤ a1 ∧ a1 ≤ 8 ∧ 0 ≤ a2 ∧ a2 ≤ 8 ∧ 0 ≤ a3 ∧ 8 - a2 < a3) ∨
      (n0 ≤ 100 ∧ 0 ≤ a1 ∧ a1 ≤ 8 ∧ 0 ≤ a2 ∧ a2 ≤ 8 ∧ 0 ≤ a3 ∧ a3 ≤ 8 - a2 ∧ (n0 : Int) < a1 + a2 + a3) ∨ (n0 ≤ 100 ∧ 0 ≤ a1 ∧ a1 ≤ 8 ∧ 0 ≤ a2 ∧ a2 ≤ 8 ∧ 0 ≤ a3 ∧ a3 ≤ 8 - a2 ∧ a1 + a2 + a3 ≤ (n0 : Int)) := by omega
  rcases hcase with h1 | ⟨h1, h2⟩ | ⟨h1, h2, h3⟩ | ⟨h1, h2, h3, h4⟩ | ⟨h1, h2, h3, h4, h5⟩ | ⟨h1, h2, h3, h4, h5, h6⟩ | ⟨h1, h2, h3, h4, h5, h6, h7⟩ | ⟨h1, h2, h3, h4, h5, h6, h7, h8⟩ | ⟨h1, h2, h3, h4, h5, h6, h7, h8⟩
  · go_enter Try.func4, Try.ntmps4
    go_wp2_with (first
      | ((go_at_call 5; refine (alive_yes _).mono ?_; rintro e w1 ⟨rfl, hb1⟩))
      | ((go_at_call 6; ((with_reducible refine (of_any _ _ _ _ _ (HR.out.below hb1) (by omega)).mono ?_); rintro e w2 h2; obtain ⟨g1, rfl, he1, hg1, hb2⟩ := h2.mk; clear h2)))
      | ((go_at_call 6; ((with_reducible refine (of_any _ _ _ _ _ (HR.out.below (hb1.trans (hb2.mono hb1.size))) (by omega)).mono ?_); rintro e w3 h3; obtain ⟨g2, rfl, he2, hg2, hb3⟩ := h3.mk; clear h3; have t1 := two_new hb1 he1 hb2 he2 hb3; clear he1 hb2 he2 hb3 hg1 hg2)))
      | ((go_at_call 7; ((with_reducible refine (num_x t1 rfl hi8 c8.out c1.out c5.out).mono ?_); rintro e w4 ⟨rfl, t2⟩; clear t1)))
      | ((go_at_call 7; ((with_reducible refine (num_y t2 rfl hi8 c8.out c1.out c5.out).mono ?_); rintro e w5 ⟨rfl, t3⟩; clear t2)))
      | ((go_at_call 7; ((with_reducible refine (num_x t3 rfl hj8 c9.out c2.out rfl).mono ?_); rintro e w6 ⟨rfl, t4⟩; clear t3)))
      | ((go_at_call 7; ((with_reducible refine (num_x t4 (by omega) hk8 d1.out c3.out c6.out).mono ?_); rintro e w7 ⟨rfl, t5⟩; clear t4)))
      | ((go_at_call 7; ((with_reducible refine (num_y t5 (by omega) hjk8 d2.out c4.out c7.out).mono ?_); rintro e w8 ⟨rfl, t6⟩; clear t5)))
      | ((go_at_call 9; ((with_reducible refine (left_x t6 rfl).mono ?_); rintro e w9 ⟨rfl, rfl⟩)))
      | ((go_at_call 9; ((with_reducible refine (left_y t6 rfl).mono ?_); rintro e w10 ⟨rfl, rfl⟩))))
    go_ret
    exact ⟨rfl, hb1⟩
  · go_enter Try.func4, Try.ntmps4
    go_wp2_with (first
      | ((go_at_call 5; refine (alive_yes _).mono ?_; rintro e w1 ⟨rfl, hb1⟩))
      | ((go_at_call 6; ((with_reducible refine (of_any _ _ _ _ _ (HR.out.below hb1) (by omega)).mono ?_); rintro e w2 h2; obtain ⟨g1, rfl, he1, hg1, hb2⟩ := h2.mk; clear h2)))
      | ((go_at_call 6; ((with_reducible refine (of_any _ _ _ _ _ (HR.out.below (hb1.trans (hb2.mono hb1.size))) (by omega)).mono ?_); rintro e w3 h3; obtain ⟨g2, rfl, he2, hg2, hb3⟩ := h3.mk; clear h3; have t1 := two_new hb1 he1 hb2 he2 hb3; clear he1 hb2 he2 hb3 hg1 hg2)))
      | ((go_at_call 7; ((with_reducible refine (num_x t1 rfl hi8 c8.out c1.out c5.out).mono ?_); rintro e w4 ⟨rfl, t2⟩; clear t1)))
      | ((go_at_call 7; ((with_reducible refine (num_y t2 rfl hi8 c8.out c1.out c5.out).mono ?_); rintro e w5 ⟨rfl, t3⟩; clear t2)))
      | ((go_at_call 7; ((with_reducible refine (num_x t3 rfl hj8 c9.out c2.out rfl).mono ?_); rintro e w6 ⟨rfl, t4⟩; clear t3)))
      | ((go_at_call 7; ((with_reducible refine (num_x t4 (by omega) hk8 d1.out c3.out c6.out).mono ?_); rintro e w7 ⟨rfl, t5⟩; clear t4)))
      | ((go_at_call 7; ((with_reducible refine (num_y t5 (by omega) hjk8 d2.out c4.out c7.out).mono ?_); rintro e w8 ⟨rfl, t6⟩; clear t5)))
      | ((go_at_call 9; ((with_reducible refine (left_x t6 rfl).mono ?_); rintro e w9 ⟨rfl, rfl⟩)))
      | ((go_at_call 9; ((with_reducible refine (left_y t6 rfl).mono ?_); rintro e w10 ⟨rfl, rfl⟩))))
    go_ret
    exact ⟨rfl, hb1⟩
  · go_enter Try.func4, Try.ntmps4
    go_wp2_with (first
      | ((go_at_call 5; refine (alive_yes _).mono ?_; rintro e w1 ⟨rfl, hb1⟩))
      | ((go_at_call 6; ((with_reducible refine (of_any _ _ _ _ _ (HR.out.below hb1) (by omega)).mono ?_); rintro e w2 h2; obtain ⟨g1, rfl, he1, hg1, hb2⟩ := h2.mk; clear h2)))
      | ((go_at_call 6; ((with_reducible refine (of_any _ _ _ _ _ (HR.out.below (hb1.trans (hb2.mono hb1.size))) (by omega)).mono ?_); rintro e w3 h3; obtain ⟨g2, rfl, he2, hg2, hb3⟩ := h3.mk; clear h3; have t1 := two_new hb1 he1 hb2 he2 hb3; clear he1 hb2 he2 hb3 hg1 hg2)))
      | ((go_at_call 7; ((with_reducible refine (num_x t1 rfl hi8 c8.out c1.out c5.out).mono ?_); rintro e w4 ⟨rfl, t2⟩; clear t1)))
      | ((go_at_call 7; ((with_reducible refine (num_y t2 rfl hi8 c8.out c1.out c5.out).mono ?_); rintro e w5 ⟨rfl, t3⟩; clear t2)))
      | ((go_at_call 7; ((with_reducible refine (num_x t3 rfl hj8 c9.out c2.out rfl).mono ?_); rintro e w6 ⟨rfl, t4⟩; clear t3)))
      | ((go_at_call 7; ((with_reducible refine (num_x t4 (by omega) hk8 d1.out c3.out c6.out).mono ?_); rintro e w7 ⟨rfl, t5⟩; clear t4)))
      | ((go_at_call 7; ((with_reducible refine (num_y t5 (by omega) hjk8 d2.out c4.out c7.out).mono ?_); rintro e w8 ⟨rfl, t6⟩; clear t5)))
      | ((go_at_call 9; ((with_reducible refine (left_x t6 rfl).mono ?_); rintro e w9 ⟨rfl, rfl⟩)))
      | ((go_at_call 9; ((with_reducible refine (left_y t6 rfl).mono ?_); rintro e w10 ⟨rfl, rfl⟩))))
    go_ret
    exact ⟨rfl, hb1⟩
  · go_enter Try.func4, Try.ntmps4
    go_wp2_with (first
      | ((go_at_call 5; refine (alive_yes _).mono ?_; rintro e w1 ⟨rfl, hb1⟩))
      | ((go_at_call 6; ((with_reducible refine (of_any _ _ _ _ _ (HR.out.below hb1) (by omega)).mono ?_); rintro e w2 h2; obtain ⟨g1, rfl, he1, hg1, hb2⟩ := h2.mk; clear h2)))
      | ((go_at_call 6; ((with_reducible refine (of_any _ _ _ _ _ (HR.out.below (hb1.trans (hb2.mono hb1.size))) (by omega)).mono ?_); rintro e w3 h3; obtain ⟨g2, rfl, he2, hg2, hb3⟩ := h3.mk; clear h3; have t1 := two_new hb1 he1 hb2 he2 hb3; clear he1 hb2 he2 hb3 hg1 hg2)))
      | ((go_at_call 7; ((with_reducible refine (num_x t1 rfl hi8 c8.out c1.out c5.out).mono ?_); rintro e w4 ⟨rfl, t2⟩; clear t1)))
      | ((go_at_call 7; ((with_reducible refine (num_y t2 rfl hi8 c8.out c1.out c5.out).mono ?_); rintro e w5 ⟨rfl, t3⟩; clear t2)))
      | ((go_at_call 7; ((with_reducible refine (num_x t3 rfl hj8 c9.out c2.out rfl).mono ?_); rintro e w6 ⟨rfl, t4⟩; clear t3)))
      | ((go_at_call 7; ((with_reducible refine (num_x t4 (by omega) hk8 d1.out c3.out c6.out).mono ?_); rintro e w7 ⟨rfl, t5⟩; clear t4)))
      | ((go_at_call 7; ((with_reducible refine (num_y t5 (by omega) hjk8 d2.out c4.out c7.out).mono ?_); rintro e w8 ⟨rfl, t6⟩; clear t5)))
      | ((go_at_call 9; ((with_reducible refine (left_x t6 rfl).mono ?_); rintro e w9 ⟨rfl, rfl⟩)))
      | ((go_at_call 9; ((with_reducible refine (left_y t6 rfl).mono ?_); rintro e w10 ⟨rfl, rfl⟩))))
    go_ret
    exact ⟨rfl, hb1⟩
  · go_enter Try.func4, Try.ntmps4
    go_wp2_with (first
      | ((go_at_call 5; refine (alive_yes _).mono ?_; rintro e w1 ⟨rfl, hb1⟩))
      | ((go_at_call 6; ((with_reducible refine (of_any _ _ _ _ _ (HR.out.below hb1) (by omega)).mono ?_); rintro e w2 h2; obtain ⟨g1, rfl, he1, hg1, hb2⟩ := h2.mk; clear h2)))
      | ((go_at_call 6; ((with_reducible refine (of_any _ _ _ _ _ (HR.out.below (hb1.trans (hb2.mono hb1.size))) (by omega)).mono ?_); rintro e w3 h3; obtain ⟨g2, rfl, he2, hg2, hb3⟩ := h3.mk; clear h3; have t1 := two_new hb1 he1 hb2 he2 hb3; clear he1 hb2 he2 hb3 hg1 hg2)))
      | ((go_at_call 7; ((with_reducible refine (num_x t1 rfl hi8 c8.out c1.out c5.out).mono ?_); rintro e w4 ⟨rfl, t2⟩; clear t1)))
      | ((go_at_call 7; ((with_reducible refine (num_y t2 rfl hi8 c8.out c1.out c5.out).mono ?_); rintro e w5 ⟨rfl, t3⟩; clear t2)))
      | ((go_at_call 7; ((with_reducible refine (num_x t3 rfl hj8 c9.out c2.out rfl).mono ?_); rintro e w6 ⟨rfl, t4⟩; clear t3)))
      | ((go_at_call 7; ((with_reducible refine (num_x t4 (by omega) hk8 d1.out c3.out c6.out).mono ?_); rintro e w7 ⟨rfl, t5⟩; clear t4)))
      | ((go_at_call 7; ((with_reducible refine (num_y t5 (by omega) hjk8 d2.out c4.out c7.out).mono ?_); rintro e w8 ⟨rfl, t6⟩; clear t5)))
      | ((go_at_call 9; ((with_reducible refine (left_x t6 rfl).mono ?_); rintro e w9 ⟨rfl, rfl⟩)))
      | ((go_at_call 9; ((with_reducible refine (left_y t6 rfl).mono ?_); rintro e w10 ⟨rfl, rfl⟩))))
    go_ret
    exact ⟨rfl, hb1⟩
  · go_enter Try.func4, Try.ntmps4
    go_wp2_with (first
      | ((go_at_call 5; refine (alive_yes _).mono ?_; rintro e w1 ⟨rfl, hb1⟩))
      | ((go_at_call 6; ((with_reducible refine (of_any _ _ _ _ _ (HR.out.below hb1) (by omega)).mono ?_); rintro e w2 h2; obtain ⟨g1, rfl, he1, hg1, hb2⟩ := h2.mk; clear h2)))
      | ((go_at_call 6; ((with_reducible refine (of_any _ _ _ _ _ (HR.out.below (hb1.trans (hb2.mono hb1.size))) (by omega)).mono ?_); rintro e w3 h3; obtain ⟨g2, rfl, he2, hg2, hb3⟩ := h3.mk; clear h3; have t1 := two_new hb1 he1 hb2 he2 hb3; clear he1 hb2 he2 hb3 hg1 hg2)))
      | ((go_at_call 7; ((with_reducible refine (num_x t1 rfl hi8 c8.out c1.out c5.out).mono ?_); rintro e w4 ⟨rfl, t2⟩; clear t1)))
      | ((go_at_call 7; ((with_reducible refine (num_y t2 rfl hi8 c8.out c1.out c5.out).mono ?_); rintro e w5 ⟨rfl, t3⟩; clear t2)))
      | ((go_at_call 7; ((with_reducible refine (num_x t3 rfl hj8 c9.out c2.out rfl).mono ?_); rintro e w6 ⟨rfl, t4⟩; clear t3)))
      | ((go_at_call 7; ((with_reducible refine (num_x t4 (by omega) hk8 d1.out c3.out c6.out).mono ?_); rintro e w7 ⟨rfl, t5⟩; clear t4)))
      | ((go_at_call 7; ((with_reducible refine (num_y t5 (by omega) hjk8 d2.out c4.out c7.out).mono ?_); rintro e w8 ⟨rfl, t6⟩; clear t5)))
      | ((go_at_call 9; ((with_reducible refine (left_x t6 rfl).mono ?_); rintro e w9 ⟨rfl, rfl⟩)))
      | ((go_at_call 9; ((with_reducible refine (left_y t6 rfl).mono ?_); rintro e w10 ⟨rfl, rfl⟩))))
    go_ret
    exact ⟨rfl, hb1⟩
  · go_enter Try.func4, Try.ntmps4
    go_wp2_with (first
      | ((go_at_call 5; refine (alive_yes _).mono ?_; rintro e w1 ⟨rfl, hb1⟩))
      | ((go_at_call 6; ((with_reducible refine (of_any _ _ _ _ _ (HR.out.below hb1) (by omega)).mono ?_); rintro e w2 h2; obtain ⟨g1, rfl, he1, hg1, hb2⟩ := h2.mk; clear h2)))
      | ((go_at_call 6; ((with_reducible refine (of_any _ _ _ _ _ (HR.out.below (hb1.trans (hb2.mono hb1.size))) (by omega)).mono ?_); rintro e w3 h3; obtain ⟨g2, rfl, he2, hg2, hb3⟩ := h3.mk; clear h3; have t1 := two_new hb1 he1 hb2 he2 hb3; clear he1 hb2 he2 hb3 hg1 hg2)))
      | ((go_at_call 7; ((with_reducible refine (num_x t1 rfl hi8 c8.out c1.out c5.out).mono ?_); rintro e w4 ⟨rfl, t2⟩; clear t1)))
      | ((go_at_call 7; ((with_reducible refine (num_y t2 rfl hi8 c8.out c1.out c5.out).mono ?_); rintro e w5 ⟨rfl, t3⟩; clear t2)))
      | ((go_at_call 7; ((with_reducible refine (num_x t3 rfl hj8 c9.out c2.out rfl).mono ?_); rintro e w6 ⟨rfl, t4⟩; clear t3)))
      | ((go_at_call 7; ((with_reducible refine (num_x t4 (by omega) hk8 d1.out c3.out c6.out).mono ?_); rintro e w7 ⟨rfl, t5⟩; clear t4)))
      | ((go_at_call 7; ((with_reducible refine (num_y t5 (by omega) hjk8 d2.out c4.out c7.out).mono ?_); rintro e w8 ⟨rfl, t6⟩; clear t5)))
      | ((go_at_call 9; ((with_reducible refine (left_x t6 rfl).mono ?_); rintro e w9 ⟨rfl, rfl⟩)))
      | ((go_at_call 9; ((with_reducible refine (left_y t6 rfl).mono ?_); rintro e w10 ⟨rfl, rfl⟩))))
    go_ret
    exact ⟨rfl, hb1⟩
  · go_enter Try.func4, Try.ntmps4
    go_wp2_with (first
      | ((go_at_call 5; refine (alive_yes _).mono ?_; rintro e w1 ⟨rfl, hb1⟩))
      | ((go_at_call 6; ((with_reducible refine (of_any _ _ _ _ _ (HR.out.below hb1) (by omega)).mono ?_); rintro e w2 h2; obtain ⟨g1, rfl, he1, hg1, hb2⟩ := h2.mk; clear h2)))
      | ((go_at_call 6; ((with_reducible refine (of_any _ _ _ _ _ (HR.out.below (hb1.trans (hb2.mono hb1.size))) (by omega)).mono ?_); rintro e w3 h3; obtain ⟨g2, rfl, he2, hg2, hb3⟩ := h3.mk; clear h3; have t1 := two_new hb1 he1 hb2 he2 hb3; clear he1 hb2 he2 hb3 hg1 hg2)))
      | ((go_at_call 7; ((with_reducible refine (num_x t1 rfl hi8 c8.out c1.out c5.out).mono ?_); rintro e w4 ⟨rfl, t2⟩; clear t1)))
      | ((go_at_call 7; ((with_reducible refine (num_y t2 rfl hi8 c8.out c1.out c5.out).mono ?_); rintro e w5 ⟨rfl, t3⟩; clear t2)))
      | ((go_at_call 7; ((with_reducible refine (num_x t3 rfl hj8 c9.out c2.out rfl).mono ?_); rintro e w6 ⟨rfl, t4⟩; clear t3)))
      | ((go_at_call 7; ((with_reducible refine (num_x t4 (by omega) hk8 d1.out c3.out c6.out).mono ?_); rintro e w7 ⟨rfl, t5⟩; clear t4)))
      | ((go_at_call 7; ((with_reducible refine (num_y t5 (by omega) hjk8 d2.out c4.out c7.out).mono ?_); rintro e w8 ⟨rfl, t6⟩; clear t5)))
      | ((go_at_call 9; ((with_reducible refine (left_x t6 rfl).mono ?_); rintro e w9 ⟨rfl, rfl⟩)))
      | ((go_at_call 9; ((with_reducible refine (left_y t6 rfl).mono ?_); rintro e w10 ⟨rfl, rfl⟩))))
    go_ret
    exact ⟨rfl, hb1⟩
  obtain ⟨i, rfl⟩ := Int.eq_ofNat_of_zero_le h2
  obtain ⟨j, rfl⟩ := Int.eq_ofNat_of_zero_le h4
  obtain ⟨k, rfl⟩ := Int.eq_ofNat_of_zero_le h6
  have hl := w0.len_eq
  have hlt : i + j + k ≤ z0.length := by omega
  have hw := w0.wf
  have HR := Lib.hid w0
  obtain ⟨P, hP⟩ : ∃ P, getB (z0.take i) = P := ⟨_, rfl⟩
  obtain ⟨M, hM⟩ : ∃ M, getB ((z0.drop i).take j) = M := ⟨_, rfl⟩
  obtain ⟨N, hN⟩ : ∃ N, getB (((z0.drop i).drop j).take k) = N := ⟨_, rfl⟩
  obtain ⟨V, hV⟩ : ∃ V, getB ((z0.drop i).take (j + k)) = V := ⟨_, rfl⟩
  have hparts := get_parts (z0.drop i) j k (by rw [List.length_drop]; omega)
  rw [hM, hN, hV] at hparts
  have bM := in_row hw i j (by omega)
  have bV := in_row hw i (j + k) (by omega)
  have bN := in_row hw (i + j) k (by omega)
  have bN' := in_row' hw (i + j) k (by omega)
  rw [← List.drop_drop, hN] at bN bN'
  rw [hM] at bM
  rw [hV] at bV
  have hj := joined' M N V k bM.1 bN.1 bN' hparts bV.2
  obtain ⟨ys, hy⟩ : ∃ ys, z0.drop i = ys := ⟨_, rfl⟩
  obtain ⟨xs, hx⟩ : ∃ xs, (ys.drop j).drop k = xs := ⟨_, rfl⟩
  rw [hy] at hM hN hV
  have hx' : ys.drop (j + k) = xs := by rw [← hx, List.drop_drop]
  have hyl : ys.length = n0 - i := by rw [← hy, List.length_drop, hl]
  have l1 : i ≤ z0.length := by omega
  have l2 : j ≤ ys.length := by omega
  have l3 : k ≤ (ys.drop j).length := by rw [List.length_drop]; omega
  have l4 : j + k ≤ ys.length := by omega
  obtain ⟨bM1, bM2⟩ := bM
  obtain ⟨bN1, bN2⟩ := bN
  obtain ⟨bV1, bV2⟩ := bV
  have c1 := Lib.hid hP
  have c2 := Lib.hid hM
  have c3 := Lib.hid hN
  have c4 := Lib.hid hV
  have c5 := Lib.hid hy
  have c6 := Lib.hid hx
  have c7 := Lib.hid hx'
  have c8 := Lib.hid l1
  have c9 := Lib.hid l2
  have d1 := Lib.hid l3
  have d2 := Lib.hid l4
  have hi8 : i ≤ 8 := by omega
  have hj8 : j ≤ 8 := by omega
  have hk8 : k ≤ 8 := by omega
  have hjk8 : j + k ≤ 8 := by omega
  by_cases hk : k = 8
  · have hVN : V = N := by
      obtain rfl : j = 0 := by omega
      rw [hparts, ← hM]
      simp [getB]
    subst hk
    subst hVN
    clear hP hM hN hV hparts hy hx hx' hl hw hyl w0 w1 w2 w3 hj bN' l1 l2 l3 l4 hlt
    go_enter Try.func4, Try.ntmps4
    go_wp2_with (first
      | ((go_at_call 5; refine (alive_yes _).mono ?_; rintro e w1 ⟨rfl, hb1⟩))
      | ((go_at_call 6; ((with_reducible refine (of_any _ _ _ _ _ (HR.out.below hb1) (by omega)).mono ?_); rintro e w2 h2; obtain ⟨g1, rfl, he1, hg1, hb2⟩ := h2.mk; clear h2)))
      | ((go_at_call 6; ((with_reducible refine (of_any _ _ _ _ _ (HR.out.below (hb1.trans (hb2.mono hb1.size))) (by omega)).mono ?_); rintro e w3 h3; obtain ⟨g2, rfl, he2, hg2, hb3⟩ := h3.mk; clear h3; have t1 := two_new hb1 he1 hb2 he2 hb3; clear he1 hb2 he2 hb3 hg1 hg2)))
      | ((go_at_call 7; ((with_reducible refine (num_x t1 rfl hi8 c8.out c1.out c5.out).mono ?_); rintro e w4 ⟨rfl, t2⟩; clear t1)))
      | ((go_at_call 7; ((with_reducible refine (num_y t2 rfl hi8 c8.out c1.out c5.out).mono ?_); rintro e w5 ⟨rfl, t3⟩; clear t2)))
      | ((go_at_call 7; ((with_reducible refine (num_x t3 rfl hj8 c9.out c2.out rfl).mono ?_); rintro e w6 ⟨rfl, t4⟩; clear t3)))
      | ((go_at_call 7; ((with_reducible refine (num_x t4 (by omega) hk8 d1.out c3.out c6.out).mono ?_); rintro e w7 ⟨rfl, t5⟩; clear t4)))
      | ((go_at_call 7; ((with_reducible refine (num_y t5 (by omega) hjk8 d2.out c4.out c7.out).mono ?_); rintro e w8 ⟨rfl, t6⟩; clear t5)))
      | ((go_at_call 9; ((with_reducible refine (left_x t6 rfl).mono ?_); rintro e w9 ⟨rfl, rfl⟩)))
      | ((go_at_call 9; ((with_reducible refine (left_y t6 rfl).mono ?_); rintro e w10 ⟨rfl, rfl⟩))))
    go_ret
    exact ⟨rfl, t6.1⟩
  · have hk' : decide ((k : Int) = 8) = false := by simp; omega
    obtain ⟨S, hS⟩ : ∃ S, IntKind.u64.wrap (M * 2 ^ (8 * (k : Int)).toNat) = S := ⟨_, rfl⟩
    rw [hS] at hj
    clear hP hM hN hV hparts hy hx hx' hl hw hyl w0 w1 w2 w3 bN' l1 l2 l3 l4 hlt
    go_enter Try.func4, Try.ntmps4
    go_wp2_with (first
      | ((go_at_call 5; refine (alive_yes _).mono ?_; rintro e w1 ⟨rfl, hb1⟩))
      | ((go_at_call 6; ((with_reducible refine (of_any _ _ _ _ _ (HR.out.below hb1) (by omega)).mono ?_); rintro e w2 h2; obtain ⟨g1, rfl, he1, hg1, hb2⟩ := h2.mk; clear h2)))
      | ((go_at_call 6; ((with_reducible refine (of_any _ _ _ _ _ (HR.out.below (hb1.trans (hb2.mono hb1.size))) (by omega)).mono ?_); rintro e w3 h3; obtain ⟨g2, rfl, he2, hg2, hb3⟩ := h3.mk; clear h3; have t1 := two_new hb1 he1 hb2 he2 hb3; clear he1 hb2 he2 hb3 hg1 hg2)))
      | ((go_at_call 7; ((with_reducible refine (num_x t1 rfl hi8 c8.out c1.out c5.out).mono ?_); rintro e w4 ⟨rfl, t2⟩; clear t1)))
      | ((go_at_call 7; ((with_reducible refine (num_y t2 rfl hi8 c8.out c1.out c5.out).mono ?_); rintro e w5 ⟨rfl, t3⟩; clear t2)))
      | ((go_at_call 7; ((with_reducible refine (num_x t3 rfl hj8 c9.out c2.out rfl).mono ?_); rintro e w6 ⟨rfl, t4⟩; clear t3)))
      | ((go_at_call 7; ((with_reducible refine (num_x t4 (by omega) hk8 d1.out c3.out c6.out).mono ?_); rintro e w7 ⟨rfl, t5⟩; clear t4)))
      | ((go_at_call 7; ((with_reducible refine (num_y t5 (by omega) hjk8 d2.out c4.out c7.out).mono ?_); rintro e w8 ⟨rfl, t6⟩; clear t5)))
      | ((go_at_call 9; ((with_reducible refine (left_x t6 rfl).mono ?_); rintro e w9 ⟨rfl, rfl⟩)))
      | ((go_at_call 9; ((with_reducible refine (left_y t6 rfl).mono ?_); rintro e w10 ⟨rfl, rfl⟩))))
    go_ret
    exact ⟨rfl, t6.1⟩

set_option maxRecDepth 100000 in
theorem lifted (os : Os) (started : os.Started) (H : Type) (enc : TypeId × Value → H) :
    ReturnsInHanded {} Try.checked os 4 .any (Rows.octetSplitsSpec.pre6 enc Try.prog Try.f4 Rows.octetSplitsRow.domain false) (Rows.octetSplitsSpec.post enc Try.prog Try.f4 false true false false) := by
  refine returnsInHanded_of_change (C := Try.checked) own started (by kernel_rfl) Try.func4
    (ChangeSpec.witness6 (enc := enc) (C := Try.checked) false ⟨#[], #[.slice none 0 0, .int .i64 0, .int .i64 0, .int .i64 0], []⟩ 8 (by kernel_rfl) (by kernel_rfl) (by kernel_rfl) (by kernel_rfl)) ?_
  intro W base args ds gs before hval0 hW hcnd _
  have hval : ∀ (j : Nat) t v, Try.f4.params[j]? = some t → args[j]? = some v → Value.okWide Try.prog W .any base t v := hval0
  have hW' := hW
  obtain ⟨p, q, hA0, hV, rfl, hfz, hnd⟩ := hW
  have hA : DataW.TrodAll enc Try.prog W 0 (fun _ => true) true Try.f4.params.toList args.toList ds p := hA0
  have hAk := hA
  rw [Try.params4] at hA hval
  obtain ⟨v0, vs0, d0, ds0, p0, q0, hargs, rfl, hp, h0, r0⟩ := trodAll_cons hA
  obtain ⟨v1, vs1, d1, ds1, p1, q1, rfl, rfl, rfl, h1, r1⟩ := trodAll_cons r0
  obtain ⟨v2, vs2, d2, ds2, p2, q2, rfl, rfl, rfl, h2, r2⟩ := trodAll_cons r1
  obtain ⟨v3, vs3, d3, ds3, p3, q3, rfl, rfl, rfl, h3, r3⟩ := trodAll_cons r2
  obtain ⟨rfl, rfl, rfl⟩ := trodAll_nil r3
  obtain rfl : args = #[v0, v1, v2, v3] := by cases args; simp_all
  obtain ⟨rfl, rfl⟩ := trodVars_none hV
  clear hA0 hval0 hargs
  simp only [List.append_nil] at hW'
  have hend : ∀ W' : World, Below W.heap.size W W' → Rows.octetSplitsSpec.post enc Try.prog Try.f4 false true false false W #[v0, v1, v2, v3] (.bool true) W' := fun W' hb =>
    law_post (tb := 4) hW' hAk rfl (by kernel_rfl) (by kernel_rfl) (by kernel_rfl) Try.underlying4 rfl rfl rfl hb
  clear hW' hAk hp
  obtain ⟨A0, n0, c0, z0, rfl, w0⟩ := ints_arg Try.underlying22 Try.underlying5 (by kernel_rfl) (hval 0 22 v0 rfl rfl) h0
  obtain ⟨a1, rfl, rfl, rfl, w1⟩ := open_int Try.underlying3 (hval 1 3 v1 rfl rfl) h1
  obtain ⟨a2, rfl, rfl, rfl, w2⟩ := open_int Try.underlying3 (hval 2 3 v2 rfl rfl) h2
  obtain ⟨a3, rfl, rfl, rfl, w3⟩ := open_int Try.underlying3 (hval 3 3 v3 rfl rfl) h3
  refine (walk A0 n0 c0 z0 a1 a2 a3 W w0 w1 w2 w3).mono fun e W' ⟨he, hg⟩ => ?_
  subst he
  exact ⟨_, rfl, hend W' hg⟩

theorem over : Rows.octetSplitsRow.holds Try.pinned (OpenSpec.ofChange Rows.octetSplitsSpec) :=
  OpenClaim.holds_of_wide 4 Try.f4 rfl rfl rfl rfl rfl rfl rfl ⟨rfl, rfl, rfl, rfl, rfl⟩ rfl rfl rfl rfl rfl (by kernel_rfl) Try.func4 (by kernel_rfl)
    (of_decide_eq_true (by kernel_rfl)) (by unfold Func.isWrapper; first | (rw [if_pos (by decide +kernel)]; kernel_rfl) | (rw [if_neg (by decide +kernel)]; exact ⟨rfl, rfl⟩))
    (fun os started H enc _ => lifted os started H enc)

/-- THE STATEMENT -/
theorem proved : Rows.OctetSplitsSaid :=
  over
#print axioms proved
end Go.Proofs.Ytkecbdgbmebpnaa.octetSplits

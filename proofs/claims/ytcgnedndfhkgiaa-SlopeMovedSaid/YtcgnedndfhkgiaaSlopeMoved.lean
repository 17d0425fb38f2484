/-
  Moved by the same Local and the same Offset, entries have the same slope: for every drift, every slice of entries (of more than 8, or of such as cannot be, there or as moved, the law asks nothing) and every move the law answers true; without conditions.
  The walk is the prover's own; the frame of the row's step follows the kit's template.
-/
import Derived.Test.YtcgnedndfhkgiaaRows
import Derived.Test.YtcgnedndfhkgiaaLawKit
import Derived.Test.YtcgnedndfhkgiaaFlat
import Derived.Test.YtcgnedndfhkgiaaSpH
import Derived.Test.YtcgnedndfhkgiaaSpK
import Derived.LoopTactic
import Derived.Deep.CutBlock
import Derived.BigQuiet
namespace Go.Proofs.Ytcgnedndfhkgiaa.slopeMoved
open Go.ChangeShapes Go.WideShapes Go.ChangeAt Go.RowKit Go.ChangeMaps Go.WideElems
set_option linter.unusedVariables false

theorem cells1 {W : World} {vs : List Value} (h : Fit W [.int .i64, .int .i64, .int .i64] vs) : ∃ (s0 : Int) (s1 : Int) (s2 : Int), vs = [.int .i64 s0, .int .i64 s1, .int .i64 s2] ∧ (Lit.int .i64 s0).wf = true ∧ (Lit.int .i64 s1).wf = true ∧ (Lit.int .i64 s2).wf = true := by
  match vs, h.length, h with
  | [y0, y1, y2], _, h =>
    obtain ⟨⟨x0, rfl, h0⟩, ⟨x1, rfl, h1⟩, ⟨x2, rfl, h2⟩, _⟩ := h
    exact ⟨x0, x1, x2, rfl, h0, h1, h2⟩
theorem own : ownKnob Try.prog.godebug = none := by kernel_rfl
set_option linter.unusedSimpArgs false in
set_option maxHeartbeats 4000000 in
set_option maxRecDepth 100000 in
theorem walk (a0 : Int) (A1 : Option Addr) (n1 c1 : Nat) (f1 : Nat → List Value) (a2 : Int) (a3 : Int) (w : World) (w0 : (Lit.int .i64 a0).wf = true) (w1 : FlatRow w [.int .i64, .int .i64, .int .i64] A1 n1 c1 f1) (w2 : (Lit.int .i64 a2).wf = true) (w3 : (Lit.int .i64 a3).wf = true) :
    Calls Try.prog 6 #[.int .i64 a0, .slice A1 n1 c1, .int .i64 a2, .int .i64 a3] w fun e w' => e = .returned (.bool true) ∧ Below w.heap.size w w' := by
  by_cases g1 : 8 < n1
  · have d1 : decide ((8 : Int) < (n1 : Int)) = true := decide_eq_true (by omega)
    have d1' : (8 : Int) < (n1 : Int) := by omega
    go_enter Try.func6, Try.ntmps6
    go_wp2_with (first
      | ((go_at_call 9; refine (alive_yes _).mono ?_; rintro e w1 ⟨rfl, hb1⟩; have HB1 := Lib.hid hb1; clear hb1)))
    go_ret
    exact ⟨rfl, HB1.out⟩
  have d1 : decide ((8 : Int) < (n1 : Int)) = false := decide_eq_false (by omega)
  have d1' : ¬ (8 : Int) < (n1 : Int) := by omega
  by_cases g2 : a2 < -1125899906842624
  · go_enter Try.func6, Try.ntmps6
    go_wp2_with (first
      | ((go_at_call 9; refine (alive_yes _).mono ?_; rintro e w1 ⟨rfl, hb1⟩; have HB1 := Lib.hid hb1; clear hb1)))
    go_ret
    exact ⟨rfl, HB1.out⟩
  have d2 : decide (a2 < -1125899906842624) = false := decide_eq_false g2
  by_cases g3 : 1125899906842624 < a2
  · go_enter Try.func6, Try.ntmps6
    go_wp2_with (first
      | ((go_at_call 9; refine (alive_yes _).mono ?_; rintro e w1 ⟨rfl, hb1⟩; have HB1 := Lib.hid hb1; clear hb1)))
    go_ret
    exact ⟨rfl, HB1.out⟩
  have d3 : decide (1125899906842624 < a2) = false := decide_eq_false g3
  by_cases g4 : a3 < -1125899906842624
  · go_enter Try.func6, Try.ntmps6
    go_wp2_with (first
      | ((go_at_call 9; refine (alive_yes _).mono ?_; rintro e w1 ⟨rfl, hb1⟩; have HB1 := Lib.hid hb1; clear hb1)))
    go_ret
    exact ⟨rfl, HB1.out⟩
  have d4 : decide (a3 < -1125899906842624) = false := decide_eq_false g4
  by_cases g5 : 1125899906842624 < a3
  · go_enter Try.func6, Try.ntmps6
    go_wp2_with (first
      | ((go_at_call 9; refine (alive_yes _).mono ?_; rintro e w1 ⟨rfl, hb1⟩; have HB1 := Lib.hid hb1; clear hb1)))
    go_ret
    exact ⟨rfl, HB1.out⟩
  have d5 : decide (1125899906842624 < a3) = false := decide_eq_false g5
  obtain ⟨L, hL, _⟩ := trow_of_flat w1
  have HL := Lib.hid hL
  have HN := Lib.hid hL.len
  clear w1 hL
  go_enter Try.func6, Try.ntmps6
  go_wp2_with (first
    | ((go_at_call 9; refine (alive_yes _).mono ?_; rintro e w1 ⟨rfl, hb1⟩; have HB1 := Lib.hid hb1; clear hb1)))
  go_loopw [9, 36] (fun v i wr => ∃ (k : Nat) (A' : Option Addr) (c' : Nat), k ≤ n1 ∧ i = .int .i64 (k : Int) ∧ v = .slice A' k c' ∧ wr.ownsRow w.heap.size 37 3 (.slice A' k c') k (trs ((L.take k).map (shE a2 a3))) ∧ Below w.heap.size w wr ∧ ∀ e ∈ L.take k, CanE e ∧ CanE (shE a2 a3 e)) (fun _ i _ => n1 - (intOf i).toNat)
  case atStart => exact ⟨0, none, 0, Nat.zero_le _, rfl, rfl, World.ownsRow_nil _ _ _ _, HB1.out, fun e he => by cases he⟩
  case round =>
    obtain ⟨k, A', c', hk, rfl, rfl, hown, hb, hall⟩ := hrel
    have HO := Lib.hid hown
    have HB := Lib.hid hb
    have HA := Lib.hid hall
    clear hown hb hall HB1
    by_cases hlt : k < n1
    · obtain ⟨x, hx⟩ : ∃ x, L[k]? = some x := ⟨_, List.getElem?_eq_getElem (by rw [HN.out]; exact hlt)⟩
      obtain ⟨b, off, rfl, q0, q1, q2⟩ := (HL.out.below HB.out).at hx
      have HT := Lib.hid (take_next hx)
      obtain ⟨x1, x2, x3⟩ := x
      dsimp only at q0 q1 q2
      have ewk := IntWalk.i64_in ((k : Int) + 1) (by omega)
      have HX := Lib.hid (Holds.new wr 37 #[.int .i64 x1, .int .i64 x2, .int .i64 x3])
      have HB2 := Lib.hid (HB.out.alloc HB.out.size (.cells #[.int .i64 x1, .int .i64 x2, .int .i64 x3] 37))
      have HO2 := Lib.hid (own_keep' HO.out (below_alloc wr (.cells #[.int .i64 x1, .int .i64 x2, .int .i64 x3] 37)))
      clear hx
      by_cases hcan : CanE (x1, x2, x3)
      · obtain ⟨k1, k2, k3, k4, k5, k6⟩ := hcan
        dsimp only at k1 k2 k3 k4
        have e1 := IntWalk.i64_in (x1 + a2) (by omega)
        have e2 := IntWalk.i64_in (x2 + a3) (by omega)
        have HC := Lib.hid (show CanE (x1, x2, x3) from ⟨k1, k2, k3, k4, k5, k6⟩)
        clear k1 k2 k3 k4 k5 k6
        by_cases hcan2 : CanE (x1 + a2, x2 + a3, x3)
        · have HC2 := Lib.hid hcan2
          go_upto_region 14 with (first
            | (go_at_call 16; (with_reducible refine (good_yes x1 x2 x3 _ HC.out).mono ?_); rintro e w4 ⟨rfl, hb4⟩; have hx4 := HX.out.below hb4 HX.out.lt; have c0 := hx4.cell 0; have c1' := hx4.cell 1; have c2 := hx4.cell 2; have HB4 := Lib.hid (HB2.out.trans (hb4.mono HB2.out.size)); have HO4 := Lib.hid (own_keep' HO2.out hb4); have HF := Lib.hid (Holds.new w4 37 #[.int .i64 (x1 + a2), .int .i64 (x2 + a3), .int .i64 x3]); have HB5 := Lib.hid (HB4.out.alloc HB4.out.size (.cells #[.int .i64 (x1 + a2), .int .i64 (x2 + a3), .int .i64 x3] 37)); have HO5 := Lib.hid (own_keep' HO4.out (below_alloc w4 (.cells #[.int .i64 (x1 + a2), .int .i64 (x2 + a3), .int .i64 x3] 37))); clear hb4 hx4)
            | (go_at_call 16; (with_reducible refine (good_yes (x1 + a2) (x2 + a3) x3 _ HC2.out).mono ?_); rintro e w6 ⟨rfl, hb6⟩; have HF6 := Lib.hid (HF.out.below hb6 HF.out.lt); have HB6 := Lib.hid (HB5.out.trans (hb6.mono HB5.out.size)); have HO6 := Lib.hid (own_keep' HO5.out hb6); clear hb6))
          clear c0 c1' c2 q0 q1 q2
          have f0 := HF6.out.cell 0
          have f1' := HF6.out.cell 1
          have f2 := HF6.out.cell 2
          have hal := below_alloc w6 (.cells #[.int .i64 (x1 + a2), .int .i64 (x2 + a3), .int .i64 x3] 37)
          have HN7 := Lib.hid (Holds.new w6 37 #[.int .i64 (x1 + a2), .int .i64 (x2 + a3), .int .i64 x3])
          have HB7 := Lib.hid (HB6.out.trans (hal.mono HB6.out.size))
          have HO7 := Lib.hid (own_keep' HO6.out hal)
          clear hal hcan2
          go_wp2_with (at_builtin; refine wpList_push_ent rfl (.tmp 57) (.tmp 59) _ rfl w.heap.size 37 Try.underlying22 ent_info A' k c' ((L.take k).map (shE a2 a3)) rfl HO7.out w6.heap.size _ (x1 + a2, x2 + a3, x3) rfl HN7.out (by omega) HB7.out.size ?_; intro A8 c8 w8 ho8 hb8; have HO8 := Lib.hid ho8; have HB8 := Lib.hid (HB7.out.trans hb8); clear ho8 hb8)
          go_roundw
          case rel =>
            refine ⟨k + 1, A8, c8, by omega, by go_num, rfl, ?_, HB8.out, fun e he => ?_⟩
            · rw [HT.out, List.map_append]
              exact HO8.out
            · rw [HT.out] at he
              rcases List.mem_append.1 he with he | he
              · exact HA.out e he
              · simp only [List.mem_singleton] at he
                subst he
                exact ⟨HC.out, HC2.out⟩
          case measure => simp [intOf]; omega
        · go_wp2_with (first
            | (go_at_call 16; (with_reducible refine (good_yes x1 x2 x3 _ HC.out).mono ?_); rintro e w4 ⟨rfl, hb4⟩; have hx4 := HX.out.below hb4 HX.out.lt; have c0 := hx4.cell 0; have c1' := hx4.cell 1; have c2 := hx4.cell 2; have HB4 := Lib.hid (HB2.out.trans (hb4.mono HB2.out.size)); have HB5 := Lib.hid (HB4.out.alloc HB4.out.size (.cells #[.int .i64 (x1 + a2), .int .i64 (x2 + a3), .int .i64 x3] 37)); clear hb4 hx4)
            | (go_at_call 16; (with_reducible refine (good_no (x1 + a2) (x2 + a3) x3 _ hcan2).mono ?_); rintro e w6 ⟨rfl, hb6⟩; have HB6 := Lib.hid (HB5.out.trans (hb6.mono HB5.out.size)); clear hb6))
          go_ret
          exact ⟨rfl, HB6.out⟩
      · go_wp2_with (go_at_call 16; (with_reducible refine (good_no x1 x2 x3 _ hcan).mono ?_); rintro e w4 ⟨rfl, hb4⟩; have HB4 := Lib.hid (HB2.out.trans (hb4.mono HB2.out.size)); clear hb4)
        go_ret
        exact ⟨rfl, HB4.out⟩
    · obtain rfl : k = n1 := by omega
      have htk : L.take k = L := List.take_of_length_le (by rw [HN.out]; omega)
      rw [htk] at HO HA
      have hV := of_sh a0 (fun e he => (HA.out e he).1) (fun e he => (HA.out e he).2)
      have hof := fun W (hW : Below w.heap.size w W) => slope_of a0 W 0 A1 k c1 L (HL.out.below hW)
      have hom := fun W B A n c (h : TRow W B A n c (L.map (shE a2 a3))) => slope_of a0 W B A n c _ h
      simp only [hV] at hom
      obtain ⟨V, hVV⟩ : ∃ V, ofV a0 L = V := ⟨_, rfl⟩
      obtain ⟨V1, V2⟩ := V
      simp only [hVV] at hof hom
      unfold slV at hof hom
      dsimp only at hof hom
      have HOf := Lib.hid hof
      have HOm := Lib.hid hom
      have l1 : ¬ (k : Int) < k := by omega
      clear hof hom hV hVV htk HA
      go_wp2_with (first
        | (go_at_call 10; (with_reducible refine (HOf.out _ HB.out).mono ?_); rintro e w2 ⟨rfl, hb2⟩; have HB2 := Lib.hid (HB.out.trans (hb2.mono HB.out.size)); have HT2 := Lib.hid (TRow.of_own (own_keep' HO.out hb2)); clear hb2)
        | (go_at_call 10; (with_reducible refine (HOm.out _ _ _ _ _ HT2.out).mono ?_); rintro e w3 ⟨rfl, hb3⟩; have HB3 := Lib.hid (HB2.out.trans (hb3.mono HB2.out.size)); clear hb3))
      go_ret
      exact ⟨rfl, HB3.out⟩

set_option maxRecDepth 100000 in
theorem lifted (os : Os) (started : os.Started) (H : Type) (enc : TypeId × Value → H) :
    ReturnsInHanded {} Try.checked os 6 .any (Rows.slopeMovedSpec.pre6 enc Try.prog Try.f6 Rows.slopeMovedRow.domain false) (Rows.slopeMovedSpec.post enc Try.prog Try.f6 false true false false) := by
  refine returnsInHanded_of_change (C := Try.checked) own started (by kernel_rfl) Try.func6
    (ChangeSpec.witness6 (enc := enc) (C := Try.checked) false ⟨#[], #[.int .i64 0, .slice none 0 0, .int .i64 0, .int .i64 0], []⟩ 8 (by kernel_rfl) (by kernel_rfl) (by kernel_rfl) (by kernel_rfl)) ?_
  intro W base args ds gs before hval0 hW hcnd _
  have hval : ∀ (j : Nat) t v, Try.f6.params[j]? = some t → args[j]? = some v → Value.okWide Try.prog W .any base t v := hval0
  have hW' := hW
  obtain ⟨p, q, hA0, hV, rfl, hfz, hnd⟩ := hW
  have hA : DataW.TrodAll enc Try.prog W 0 (fun _ => true) true Try.f6.params.toList args.toList ds p := hA0
  have hAk := hA
  rw [Try.params6] at hA hval
  obtain ⟨v0, vs0, d0, ds0, p0, q0, hargs, rfl, hp, h0, r0⟩ := trodAll_cons hA
  obtain ⟨v1, vs1, d1, ds1, p1, q1, rfl, rfl, rfl, h1, r1⟩ := trodAll_cons r0
  obtain ⟨v2, vs2, d2, ds2, p2, q2, rfl, rfl, rfl, h2, r2⟩ := trodAll_cons r1
  obtain ⟨v3, vs3, d3, ds3, p3, q3, rfl, rfl, rfl, h3, r3⟩ := trodAll_cons r2
  obtain ⟨rfl, rfl, rfl⟩ := trodAll_nil r3
  obtain rfl : args = #[v0, v1, v2, v3] := by cases args; simp_all
  obtain ⟨rfl, rfl⟩ := trodVars_none hV
  clear hA0 hval0 hargs
  simp only [List.append_nil] at hW'
  have hend : ∀ W' : World, Below W.heap.size W W' → Rows.slopeMovedSpec.post enc Try.prog Try.f6 false true false false W #[v0, v1, v2, v3] (.bool true) W' := fun W' hb =>
    law_post (tb := 4) hW' hAk rfl (by kernel_rfl) (by kernel_rfl) (by kernel_rfl) Try.underlying4 rfl rfl rfl hb
  clear hW' hAk hp
  obtain ⟨a0, rfl, rfl, rfl, w0⟩ := open_int Try.underlying3 (hval 0 3 v0 rfl rfl) h0
  obtain ⟨A1, n1, c1, f1, rfl, w1⟩ := flats_arg (ks := [.int .i64, .int .i64, .int .i64]) 9 Try.underlying22 (by kernel_rfl) (by kernel_rfl) (by decide) (hval 1 22 v1 rfl rfl) h1
  obtain ⟨a2, rfl, rfl, rfl, w2⟩ := open_int Try.underlying3 (hval 2 3 v2 rfl rfl) h2
  obtain ⟨a3, rfl, rfl, rfl, w3⟩ := open_int Try.underlying3 (hval 3 3 v3 rfl rfl) h3
  refine (walk a0 A1 n1 c1 f1 a2 a3 W w0 w1 w2 w3).mono fun e W' ⟨he, hg⟩ => ?_
  subst he
  exact ⟨_, rfl, hend W' hg⟩

theorem over : Rows.slopeMovedRow.holds Try.pinned (OpenSpec.ofChange Rows.slopeMovedSpec) :=
  OpenClaim.holds_of_wide 6 Try.f6 rfl rfl rfl rfl rfl rfl rfl ⟨rfl, rfl, rfl, rfl, rfl⟩ rfl rfl rfl rfl rfl (by kernel_rfl) Try.func6 (by kernel_rfl)
    (of_decide_eq_true (by kernel_rfl)) (by unfold Func.isWrapper; first | (rw [if_pos (by decide +kernel)]; kernel_rfl) | (rw [if_neg (by decide +kernel)]; exact ⟨rfl, rfl⟩))
    (fun os started H enc _ => lifted os started H enc)

/-- THE STATEMENT -/
theorem proved : Rows.SlopeMovedSaid :=
  over
#print axioms proved
end Go.Proofs.Ytcgnedndfhkgiaa.slopeMoved

/-
  Of every row of up to a hundred entries a table that all are added to has, behind each, no more than eight, whose Locals rise, and the newest that was taken is the last one; for every row of entries the law answers true; without conditions.
  The walk is the prover's own; the frame of the row's step follows the kit's template.
-/
import Derived.Test.YtfeemjkjgbjejaaRows
import Derived.Test.YtfeemjkjgbjejaaLawKit
import Derived.Test.YtfeemjkjgbjejaaFlat
import Derived.Test.YtfeemjkjgbjejaaTbI
import Derived.LoopTactic
import Derived.Deep.CutBlock
import Derived.BigQuiet
namespace Go.Proofs.Ytfeemjkjgbjejaa.tableRises
open Go.ChangeShapes Go.WideShapes Go.ChangeAt Go.RowKit Go.ChangeMaps Go.WideElems
set_option linter.unusedVariables false

theorem cells0 {W : World} {vs : List Value} (h : Fit W [.int .i64, .int .i64, .int .i64] vs) : ∃ (s0 : Int) (s1 : Int) (s2 : Int), vs = [.int .i64 s0, .int .i64 s1, .int .i64 s2] ∧ (Lit.int .i64 s0).wf = true ∧ (Lit.int .i64 s1).wf = true ∧ (Lit.int .i64 s2).wf = true := by
  match vs, h.length, h with
  | [y0, y1, y2], _, h =>
    obtain ⟨⟨x0, rfl, h0⟩, ⟨x1, rfl, h1⟩, ⟨x2, rfl, h2⟩, _⟩ := h
    exact ⟨x0, x1, x2, rfl, h0, h1, h2⟩
theorem own : ownKnob Try.prog.godebug = none := by kernel_rfl
set_option linter.unusedSimpArgs false in
set_option maxHeartbeats 4000000 in
set_option maxRecDepth 100000 in
theorem walk (A0 : Option Addr) (n0 c0 : Nat) (f0 : Nat → List Value) (w : World) (w0 : FlatRow w [.int .i64, .int .i64, .int .i64] A0 n0 c0 f0) :
    Calls Try.prog 4 #[.slice A0 n0 c0] w fun e w' => e = .returned (.bool true) ∧ Below w.heap.size w w' := by
  by_cases h100 : 100 < n0
  · have d3 : decide ((100 : Int) < (n0 : Int)) = true := decide_eq_true (by omega)
    go_enter Try.func4, Try.ntmps4
    go_wp2_with (first
      | ((go_at_call 6; refine (alive_yes _).mono ?_; rintro e w1 ⟨rfl, hb1⟩)))
    go_ret
    exact ⟨rfl, hb1⟩
  have d3 : decide ((100 : Int) < (n0 : Int)) = false := decide_eq_false (by omega)
  have R := Lib.hid w0
  have hcap := w0.cap_le
  have hmx := w0.max
  unfold maxLen at hmx
  clear w0
  go_enter Try.func4, Try.ntmps4
  go_wp2_with (first
    | ((go_at_call 6; refine (alive_yes _).mono ?_; rintro e w1 ⟨rfl, hb1⟩)))
  obtain ⟨z, hz⟩ : ∃ z, w1.heap.size = z := ⟨_, rfl⟩
  have hwz : w.heap.size ≤ z := by rw [← hz]; exact hb1.size
  have HT0 := Lib.hid (tb_new w1)
  have HB0 := Lib.hid (hb1.alloc hb1.size (.cells #[.int .i64 0, .int .i64 0, .int .i64 0, .int .i64 0, .int .i64 0, .int .i64 0, .int .i64 0, .int .i64 0, .int .i64 0, .int .i64 0, .int .i64 0, .int .i64 0, .int .i64 0, .int .i64 0, .int .i64 0, .int .i64 0, .int .i64 0, .int .i64 0, .int .i64 0, .int .i64 0, .int .i64 0, .int .i64 0, .int .i64 0, .int .i64 0, .int .i64 0] 29))
  rw [hz] at HT0
  simp only [hz]
  clear hb1 hz
  go_loopw [16] (fun i wr => ∃ (k : Nat) (L : List Ent), k ≤ n0 ∧ i = .int .i64 (k : Int) ∧ Tb wr z 0 29 [] [] L ∧ Rising L ∧ Below w.heap.size w wr) (fun i _ => n0 - (intOf i).toNat)
  case atStart => exact ⟨0, [], Nat.zero_le _, rfl, HT0.out, rising_nil, HB0.out⟩
  case round =>
    obtain ⟨k, L, hk, rfl, hT, hR, hB⟩ := hrel
    have HT := Lib.hid hT
    have HRi := Lib.hid hR
    have HB := Lib.hid hB
    clear HT0 HB0 hT hR hB
    by_cases hlt : k < n0
    · obtain ⟨b, off, rfl, hb', hc⟩ := (R.out.below HB.out).at 3 rfl hlt
      obtain ⟨s0, s1, s2, hf, hw0, hw1, hw2⟩ := cells0 (R.out.fit k hlt)
      have q0 : wr.cell? ⟨b, off + k * 3, none⟩ = some (.int .i64 s0) := hc 0 _ (by rw [hf]; rfl)
      have q1 : wr.cell? ⟨b, off + k * 3 + 1, none⟩ = some (.int .i64 s1) := hc 1 _ (by rw [hf]; rfl)
      have q2 : wr.cell? ⟨b, off + k * 3 + 2, none⟩ = some (.int .i64 s2) := hc 2 _ (by rw [hf]; rfl)
      have ew := IntWalk.i64_in ((k : Int) + 1) (by omega)
      have HT1 := Lib.hid (HT.out.below (below_alloc wr (.cells #[.int .i64 s0, .int .i64 s1, .int .i64 s2] 26)))
      have HE := Lib.hid (Holds.new wr 26 #[.int .i64 s0, .int .i64 s1, .int .i64 s2])
      have HB1 := Lib.hid (HB.out.alloc HB.out.size (.cells #[.int .i64 s0, .int .i64 s1, .int .i64 s2] 26))
      have hze : z ≠ wr.heap.size := Nat.ne_of_lt HT.out.lt
      clear hc hf hw0 hw1 hw2 HT HB
      by_cases hcan : CanE (s0, s1, s2)
      case' neg =>
        have hadd := add_bad s0 s1 s2 (wr.alloc (.cells #[.int .i64 s0, .int .i64 s1, .int .i64 s2] 26)) ⟨z, 0, none⟩ hcan
        go_upto_region 10 with (go_at_call 9; (with_reducible refine hadd.mono ?_); rintro e w4 ⟨rfl, hb4⟩; have HT4 := Lib.hid (HT1.out.below hb4); have HE4 := Lib.hid (HE.out.below hb4 HE.out.lt); have HB4 := Lib.hid (HB1.out.trans (hb4.mono HB1.out.size)); obtain ⟨L4, rfl⟩ : ∃ L4, L4 = L := ⟨_, rfl⟩; have HRi4 := HRi; clear hb4)
        have hlist := list_any w4 _ L4 HT4.out.src
        obtain ⟨n5, hn5⟩ : ∃ n5, L4.length = n5 := ⟨_, rfl⟩
        have h8 := HT4.out.le
        rw [hn5] at h8
        have HN5 := Lib.hid hn5
        clear hadd HT1 HE HB1 HRi q0 q1 q2
        go_upto_region 11 with (go_at_call 12; (with_reducible refine hlist.mono ?_); rintro e w5 ⟨c5, rfl, ho5, hb5⟩; rw [hn5] at ho5 ⊢; have HO5 := Lib.hid ho5; have HT5 := Lib.hid (HT4.out.below hb5); have HB5 := Lib.hid (HB4.out.trans (hb5.mono HB4.out.size)); have he5 := HE4.out.below hb5 HE4.out.lt; have e0 := he5.cell 0; have e1 := he5.cell 1; have e2 := he5.cell 2; clear ho5 hb5 he5)
        have d8 : decide ((8 : Int) < (n5 : Int)) = false := decide_eq_false (by omega)
        have d8' : decide (8 < n5) = false := decide_eq_false (by omega)
        go_quiet (fail)
        go_upto_region 13 with (fail)
        obtain ⟨sb, hsb⟩ : ∃ sb, w4.heap.size = sb := ⟨_, rfl⟩
        rw [hsb] at HO5
        simp only [hsb]
        have HT6 := Lib.hid (HT5.out.below (below_drewN (Below.refl _ _) nq))
        have HB6 := Lib.hid (below_drewN HB5.out nq)
        have HO6 := Lib.hid (own_keep' HO5.out (below_drewN (Below.refl _ _) nq))
        obtain ⟨W6, hW6⟩ : ∃ W6, w5.drewN nq = W6 := ⟨_, rfl⟩
        rw [hW6] at HT6 HB6 HO6 ⊢
        clear HT5 HB5 HO5 HE4 HB4 HT4 hn5 hlist hsb hW6 e0 e1 e2 d8 d8'
      case' pos =>
        by_cases hlat : Later L (s0, s1, s2)
        case' neg =>
          obtain ⟨M, x, y, u, rfl, hx⟩ := not_later hlat
          have hadd := add_late s0 s1 s2 _ z 0 29 [] [] M x y u HT1.out hcan hx
          go_upto_region 10 with (go_at_call 9; (with_reducible refine hadd.mono ?_); rintro e w4 ⟨rfl, hb4⟩; have HT4 := Lib.hid (HT1.out.below hb4); have HE4 := Lib.hid (HE.out.below hb4 HE.out.lt); have HB4 := Lib.hid (HB1.out.trans (hb4.mono HB1.out.size)); obtain ⟨L4, hL4⟩ : ∃ L4, M ++ [(x, y, u)] = L4 := ⟨_, rfl⟩; have HRi4 := HRi; rw [hL4] at HT4 HRi4; clear hL4; clear hb4)
          have hlist := list_any w4 _ L4 HT4.out.src
          obtain ⟨n5, hn5⟩ : ∃ n5, L4.length = n5 := ⟨_, rfl⟩
          have h8 := HT4.out.le
          rw [hn5] at h8
          have HN5 := Lib.hid hn5
          clear hadd HT1 HE HB1 HRi q0 q1 q2
          go_upto_region 11 with (go_at_call 12; (with_reducible refine hlist.mono ?_); rintro e w5 ⟨c5, rfl, ho5, hb5⟩; rw [hn5] at ho5 ⊢; have HO5 := Lib.hid ho5; have HT5 := Lib.hid (HT4.out.below hb5); have HB5 := Lib.hid (HB4.out.trans (hb5.mono HB4.out.size)); have he5 := HE4.out.below hb5 HE4.out.lt; have e0 := he5.cell 0; have e1 := he5.cell 1; have e2 := he5.cell 2; clear ho5 hb5 he5)
          have d8 : decide ((8 : Int) < (n5 : Int)) = false := decide_eq_false (by omega)
          have d8' : decide (8 < n5) = false := decide_eq_false (by omega)
          go_quiet (fail)
          go_upto_region 13 with (fail)
          obtain ⟨sb, hsb⟩ : ∃ sb, w4.heap.size = sb := ⟨_, rfl⟩
          rw [hsb] at HO5
          simp only [hsb]
          have HT6 := Lib.hid (HT5.out.below (below_drewN (Below.refl _ _) nq))
          have HB6 := Lib.hid (below_drewN HB5.out nq)
          have HO6 := Lib.hid (own_keep' HO5.out (below_drewN (Below.refl _ _) nq))
          obtain ⟨W6, hW6⟩ : ∃ W6, w5.drewN nq = W6 := ⟨_, rfl⟩
          rw [hW6] at HT6 HB6 HO6 ⊢
          clear HT5 HB5 HO5 HE4 HB4 HT4 hn5 hlist hsb hW6 e0 e1 e2 d8 d8'
        case' pos =>
          have hadd := add_any s0 s1 s2 _ z 0 29 [] [] L HT1.out hcan hlat
          go_upto_region 10 with (go_at_call 9; (with_reducible refine hadd.mono ?_); rintro e w4 ⟨rfl, ht4, hc4⟩; have HT4 := Lib.hid ht4; have HE4 := Lib.hid (HE.out.chg hc4 hze.symm); have HB4 := Lib.hid (tb_below HT1.out HB1.out hc4 hwz); have HRi4 := Lib.hid (rising_push HRi.out hlat); obtain ⟨L4, hL4⟩ : ∃ L4, pushL L (s0, s1, s2) = L4 := ⟨_, rfl⟩; rw [hL4] at HT4 HRi4; clear ht4 hc4)
          have hlist := list_any w4 _ L4 HT4.out.src
          obtain ⟨n5, hn5⟩ : ∃ n5, L4.length = n5 := ⟨_, rfl⟩
          have h8 := HT4.out.le
          rw [hn5] at h8
          have HN5 := Lib.hid hn5
          clear hadd HT1 HE HB1 HRi q0 q1 q2
          go_upto_region 11 with (go_at_call 12; (with_reducible refine hlist.mono ?_); rintro e w5 ⟨c5, rfl, ho5, hb5⟩; rw [hn5] at ho5 ⊢; have HO5 := Lib.hid ho5; have HT5 := Lib.hid (HT4.out.below hb5); have HB5 := Lib.hid (HB4.out.trans (hb5.mono HB4.out.size)); have he5 := HE4.out.below hb5 HE4.out.lt; have e0 := he5.cell 0; have e1 := he5.cell 1; have e2 := he5.cell 2; clear ho5 hb5 he5)
          have d8 : decide ((8 : Int) < (n5 : Int)) = false := decide_eq_false (by omega)
          have d8' : decide (8 < n5) = false := decide_eq_false (by omega)
          obtain ⟨p, hp, hl⟩ : ∃ p, n5 = p + 1 ∧ L4[p]? = some (s0, s1, s2) := by
            obtain ⟨M, hM⟩ := push_snoc L (s0, s1, s2)
            refine ⟨M.length, ?_, ?_⟩
            · rw [← HN5.out, ← hL4, hM, List.length_append]; rfl
            · rw [← hL4, hM]; simp
          obtain ⟨x0, x1, x2⟩ := ents_at HO5.out hl
          dsimp only at x0 x1 x2
          have hp0 : ((n5 : Int) == 0) = false := by simp; omega
          have hpw : IntKind.i64.wrap ((n5 : Int) - 1) = (p : Int) := by
            rw [IntWalk.i64_in _ (by omega)]
            omega
          have hpl : (p : Int) < (n5 : Int) := by omega
          have hpl2 : p < n5 := by omega
          have hp3 : ¬ n5 = 0 := by omega
          clear hL4 hp hl
          go_quiet (fail)
          go_upto_region 13 with (fail)
          obtain ⟨sb, hsb⟩ : ∃ sb, w4.heap.size = sb := ⟨_, rfl⟩
          rw [hsb] at HO5
          simp only [hsb]
          have HT6 := Lib.hid (HT5.out.below (below_drewN (Below.refl _ _) nq))
          have HB6 := Lib.hid (below_drewN HB5.out nq)
          have HO6 := Lib.hid (own_keep' HO5.out (below_drewN (Below.refl _ _) nq))
          obtain ⟨W6, hW6⟩ : ∃ W6, w5.drewN nq = W6 := ⟨_, rfl⟩
          rw [hW6] at HT6 HB6 HO6 ⊢
          clear HT5 HB5 HO5 HE4 HB4 HT4 hn5 hlist hsb hW6 e0 e1 e2 d8 d8'
          clear x0 x1 x2 hp0 hpw hpl hpl2 hp3
      all_goals
        go_wp2
        go_loopw [8] (fun i ws => ∃ j : Nat, 1 ≤ j ∧ i = .int .i64 (j : Int) ∧ j ≤ n5 + 1 ∧ Below W6.heap.size W6 ws) (fun i _ => n5 + 1 - (intOf i).toNat)
        case atStart => exact ⟨1, Nat.le_refl _, rfl, by omega, Below.refl _ _⟩
        case round =>
          obtain ⟨j, hj, rfl, hj2, hbj⟩ := hrel
          have HBj := Lib.hid hbj
          clear hbj
          by_cases hjl : j < n5
          · obtain ⟨i, rfl⟩ : ∃ i, j = i + 1 := ⟨j - 1, by omega⟩
            obtain ⟨x, hx⟩ : ∃ x, L4[i]? = some x := ⟨_, List.getElem?_eq_getElem (by rw [HN5.out]; omega)⟩
            obtain ⟨y, hy⟩ : ∃ y, L4[i + 1]? = some y := ⟨_, List.getElem?_eq_getElem (by rw [HN5.out]; exact hjl)⟩
            obtain ⟨x0, _, _⟩ := ents_at (own_keep' HO6.out HBj.out) hx
            obtain ⟨y0, _, _⟩ := ents_at (own_keep' HO6.out HBj.out) hy
            have hxy := rising_at HRi4.out hx hy
            obtain ⟨X, hX⟩ : ∃ X, x.1 = X := ⟨_, rfl⟩
            obtain ⟨Y, hY⟩ : ∃ Y, y.1 = Y := ⟨_, rfl⟩
            rw [hX] at x0 hxy
            rw [hY] at y0 hxy
            obtain ⟨jj, hjj⟩ : ∃ jj, i + 1 = jj := ⟨_, rfl⟩
            rw [hjj] at hj hj2 hjl y0 ⊢
            have dxy : decide (Y ≤ X) = false := decide_eq_false (by omega)
            have w1' : IntKind.i64.wrap ((jj : Int) - 1) = (i : Int) := by
              rw [IntWalk.i64_in _ (by omega)]
              omega
            have w2' := IntWalk.i64_in ((jj : Int) + 1) (by omega)
            have l1 : (i : Int) < (n5 : Int) := by omega
            have l2 : (jj : Int) < (n5 : Int) := by omega
            have l3 : i < n5 := by omega
            clear hx hy hxy hX hY hjj
            go_upto_region 16 with (fail)
            go_quiet (fail)
            go_wp2
            go_roundw
            case rel => exact ⟨jj + 1, by omega, by go_num, by omega, below_drewN HBj.out _⟩
            case measure => simp [intOf]; omega
          · have l2 : ¬ ((j : Int) < (n5 : Int)) := by omega
            have l3 : decide ((j : Int) < (n5 : Int)) = false := decide_eq_false l2
            go_wp2
            go_roundw
            case rel => exact ⟨k + 1, L4, by omega, by go_num, HT6.out.below HBj.out, HRi4.out, HB6.out.trans (HBj.out.mono HB6.out.size)⟩
            case measure => simp [intOf]; omega
    · clear hk
      go_wp2
      go_ret
      exact ⟨rfl, HB.out⟩

set_option maxRecDepth 100000 in
theorem lifted (os : Os) (started : os.Started) (H : Type) (enc : TypeId × Value → H) :
    ReturnsInHanded {} Try.checked os 4 .any (Rows.tableRisesSpec.pre6 enc Try.prog Try.f4 Rows.tableRisesRow.domain false) (Rows.tableRisesSpec.post enc Try.prog Try.f4 false true false false) := by
  refine returnsInHanded_of_change (C := Try.checked) own started (by kernel_rfl) Try.func4
    (ChangeSpec.witness6 (enc := enc) (C := Try.checked) false ⟨#[], #[.slice none 0 0], []⟩ 8 (by kernel_rfl) (by kernel_rfl) (by kernel_rfl) (by kernel_rfl)) ?_
  intro W base args ds gs before hval0 hW hcnd _
  have hval : ∀ (j : Nat) t v, Try.f4.params[j]? = some t → args[j]? = some v → Value.okWide Try.prog W .any base t v := hval0
  have hW' := hW
  obtain ⟨p, q, hA0, hV, rfl, hfz, hnd⟩ := hW
  have hA : DataW.TrodAll enc Try.prog W 0 (fun _ => true) true Try.f4.params.toList args.toList ds p := hA0
  have hAk := hA
  rw [Try.params4] at hA hval
  obtain ⟨v0, vs0, d0, ds0, p0, q0, hargs, rfl, hp, h0, r0⟩ := trodAll_cons hA
  obtain ⟨rfl, rfl, rfl⟩ := trodAll_nil r0
  obtain rfl : args = #[v0] := by cases args; simp_all
  obtain ⟨rfl, rfl⟩ := trodVars_none hV
  clear hA0 hval0 hargs
  simp only [List.append_nil] at hW'
  have hend : ∀ W' : World, Below W.heap.size W W' → Rows.tableRisesSpec.post enc Try.prog Try.f4 false true false false W #[v0] (.bool true) W' := fun W' hb =>
    law_post (tb := 4) hW' hAk rfl (by kernel_rfl) (by kernel_rfl) (by kernel_rfl) Try.underlying4 rfl rfl rfl hb
  clear hW' hAk hp
  obtain ⟨A0, n0, c0, f0, rfl, w0⟩ := flats_arg (ks := [.int .i64, .int .i64, .int .i64]) 9 Try.underlying22 (by kernel_rfl) (by kernel_rfl) (by decide) (hval 0 22 v0 rfl rfl) h0
  refine (walk A0 n0 c0 f0 W w0).mono fun e W' ⟨he, hg⟩ => ?_
  subst he
  exact ⟨_, rfl, hend W' hg⟩

theorem over : Rows.tableRisesRow.holds Try.pinned (OpenSpec.ofChange Rows.tableRisesSpec) :=
  OpenClaim.holds_of_wide 4 Try.f4 rfl rfl rfl rfl rfl rfl rfl ⟨rfl, rfl, rfl, rfl, rfl⟩ rfl rfl rfl rfl rfl (by kernel_rfl) Try.func4 (by kernel_rfl)
    (of_decide_eq_true (by kernel_rfl)) (by unfold Func.isWrapper; first | (rw [if_pos (by decide +kernel)]; kernel_rfl) | (rw [if_neg (by decide +kernel)]; exact ⟨rfl, rfl⟩))
    (fun os started H enc _ => lifted os started H enc)

/-- THE STATEMENT -/
theorem proved : Rows.TableRisesSaid :=
  over
#print axioms proved
end Go.Proofs.Ytfeemjkjgbjejaa.tableRises

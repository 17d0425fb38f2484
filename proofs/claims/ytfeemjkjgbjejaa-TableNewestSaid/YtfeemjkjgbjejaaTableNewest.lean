/-
  Behind eight entries that are taken what a table had ahead of them plays no part: a table that had some, and one that had none, have the same eight entries, and the same most hops; for every two rows of entries the law answers true; without conditions.
  The walk is the prover's own; the frame of the row's step follows the kit's template.
-/
import Derived.Test.YtfeemjkjgbjejaaRows
import Derived.Test.YtfeemjkjgbjejaaLawKit
import Derived.Test.YtfeemjkjgbjejaaFlat
import Derived.Test.YtfeemjkjgbjejaaTbJ
import Derived.LoopTactic
import Derived.Deep.CutBlock
import Derived.BigQuiet
namespace Go.Proofs.Ytfeemjkjgbjejaa.tableNewest
open Go.ChangeShapes Go.WideShapes Go.ChangeAt Go.RowKit Go.ChangeMaps Go.WideElems
set_option linter.unusedVariables false

theorem cells0 {W : World} {vs : List Value} (h : Fit W [.int .i64, .int .i64, .int .i64] vs) : ∃ (s0 : Int) (s1 : Int) (s2 : Int), vs = [.int .i64 s0, .int .i64 s1, .int .i64 s2] ∧ (Lit.int .i64 s0).wf = true ∧ (Lit.int .i64 s1).wf = true ∧ (Lit.int .i64 s2).wf = true := by
  match vs, h.length, h with
  | [y0, y1, y2], _, h =>
    obtain ⟨⟨x0, rfl, h0⟩, ⟨x1, rfl, h1⟩, ⟨x2, rfl, h2⟩, _⟩ := h
    exact ⟨x0, x1, x2, rfl, h0, h1, h2⟩
theorem cells1 {W : World} {vs : List Value} (h : Fit W [.int .i64, .int .i64, .int .i64] vs) : ∃ (s0 : Int) (s1 : Int) (s2 : Int), vs = [.int .i64 s0, .int .i64 s1, .int .i64 s2] ∧ (Lit.int .i64 s0).wf = true ∧ (Lit.int .i64 s1).wf = true ∧ (Lit.int .i64 s2).wf = true := by
  match vs, h.length, h with
  | [y0, y1, y2], _, h =>
    obtain ⟨⟨x0, rfl, h0⟩, ⟨x1, rfl, h1⟩, ⟨x2, rfl, h2⟩, _⟩ := h
    exact ⟨x0, x1, x2, rfl, h0, h1, h2⟩
theorem own : ownKnob Try.prog.godebug = none := by kernel_rfl
set_option linter.unusedSimpArgs false in
set_option maxHeartbeats 4000000 in
set_option maxRecDepth 100000 in
theorem walk (A0 : Option Addr) (n0 c0 : Nat) (f0 : Nat → List Value) (A1 : Option Addr) (n1 c1 : Nat) (f1 : Nat → List Value) (w : World) (w0 : FlatRow w [.int .i64, .int .i64, .int .i64] A0 n0 c0 f0) (w1 : FlatRow w [.int .i64, .int .i64, .int .i64] A1 n1 c1 f1) :
    Calls Try.prog 5 #[.slice A0 n0 c0, .slice A1 n1 c1] w fun e w' => e = .returned (.bool true) ∧ Below w.heap.size w w' := by
  by_cases h100 : 100 < n0
  · have d3 : decide ((100 : Int) < (n0 : Int)) = true := decide_eq_true (by omega)
    go_enter Try.func5, Try.ntmps5
    go_wp2_with (first
      | ((go_at_call 6; refine (alive_yes _).mono ?_; rintro e w1 ⟨rfl, hb1⟩)))
    go_ret
    exact ⟨rfl, hb1⟩
  have d3 : decide ((100 : Int) < (n0 : Int)) = false := decide_eq_false (by omega)
  by_cases h101 : 100 < n1
  · have d4 : decide ((100 : Int) < (n1 : Int)) = true := decide_eq_true (by omega)
    go_enter Try.func5, Try.ntmps5
    go_wp2_with (first
      | ((go_at_call 6; refine (alive_yes _).mono ?_; rintro e w1 ⟨rfl, hb1⟩)))
    go_ret
    exact ⟨rfl, hb1⟩
  have d4 : decide ((100 : Int) < (n1 : Int)) = false := decide_eq_false (by omega)
  have R0 := Lib.hid w0
  have R1 := Lib.hid w1
  have hcap0 := w0.cap_le
  have hmx0 := w0.max
  have hcap1 := w1.cap_le
  have hmx1 := w1.max
  unfold maxLen at hmx0 hmx1
  clear w0 w1
  go_enter Try.func5, Try.ntmps5
  go_wp2_with (first
    | ((go_at_call 6; refine (alive_yes _).mono ?_; rintro e w1 ⟨rfl, hb1⟩)))
  have htwo := two_new hb1
  obtain ⟨z, hz⟩ : ∃ z, w1.heap.size = z := ⟨_, rfl⟩
  rw [hz] at htwo
  simp only [hz]
  have HT0 := Lib.hid htwo
  clear hb1 hz htwo
  go_loopw [27] (fun i wr => ∃ (k : Nat) (L : List Ent), k ≤ n0 ∧ i = .int .i64 (k : Int) ∧ TwoT w z L [] wr) (fun i _ => n0 - (intOf i).toNat)
  case atStart => exact ⟨0, [], Nat.zero_le _, rfl, HT0.out⟩
  case round =>
    obtain ⟨k, L, hk, rfl, hT⟩ := hrel
    have HT := Lib.hid hT
    clear HT0 hT
    by_cases hlt : k < n0
    · obtain ⟨b, off, rfl, hb', hc⟩ := (R0.out.below HT.out.below).at 3 rfl hlt
      obtain ⟨s0, s1, s2, hf, hw0, hw1, hw2⟩ := cells0 (R0.out.fit k hlt)
      have q0 : wr.cell? ⟨b, off + k * 3, none⟩ = some (.int .i64 s0) := hc 0 _ (by rw [hf]; rfl)
      have q1 : wr.cell? ⟨b, off + k * 3 + 1, none⟩ = some (.int .i64 s1) := hc 1 _ (by rw [hf]; rfl)
      have q2 : wr.cell? ⟨b, off + k * 3 + 2, none⟩ = some (.int .i64 s2) := hc 2 _ (by rw [hf]; rfl)
      have ew := IntWalk.i64_in ((k : Int) + 1) (by omega)
      have HT1 := Lib.hid (HT.out.onto (below_alloc wr (.cells #[.int .i64 s0, .int .i64 s1, .int .i64 s2] 26)))
      clear hc hf hw0 hw1 hw2
      clear HT
      have hadd := add_some s0 s1 s2 _ _ _ _ _ _ L HT1.out.a
      go_wp2_with (go_at_call 9; (with_reducible refine hadd.mono ?_); rintro e w4 ⟨v, L4, rfl, ht4, hc4⟩; have HT4 := Lib.hid (HT1.out.stepA ht4 hc4); clear ht4 hc4)
      go_roundw
      case rel => exact ⟨k + 1, L4, by omega, by go_num, HT4.out⟩
      case measure => simp [intOf]; omega
    · clear hk
      go_wp2
      have HE0 := Lib.hid (ends_nil HT.out.a.le)
      go_loopw [9, 36] (fun y i wr => ∃ (k n : Nat) (L M : List Ent), k ≤ n1 ∧ n ≤ k ∧ i = .int .i64 (k : Int) ∧ y = .int .i64 (n : Int) ∧ TwoT w z L M wr ∧ Ends n L M) (fun _ i _ => n1 - (intOf i).toNat)
      case atStart => exact ⟨0, 0, L, [], Nat.zero_le _, Nat.le_refl _, rfl, rfl, HT.out, HE0.out⟩
      case round =>
        obtain ⟨k, n, L, M, hk, hnk, rfl, rfl, hT, hE⟩ := hrel
        clear HT HE0
        have HT := Lib.hid hT
        have HE := Lib.hid hE
        clear hT hE
        by_cases hlt : k < n1
        · obtain ⟨b, off, rfl, hb', hc⟩ := (R1.out.below HT.out.below).at 3 rfl hlt
          obtain ⟨s0, s1, s2, hf, hw0, hw1, hw2⟩ := cells1 (R1.out.fit k hlt)
          have q0 : wr.cell? ⟨b, off + k * 3, none⟩ = some (.int .i64 s0) := hc 0 _ (by rw [hf]; rfl)
          have q1 : wr.cell? ⟨b, off + k * 3 + 1, none⟩ = some (.int .i64 s1) := hc 1 _ (by rw [hf]; rfl)
          have q2 : wr.cell? ⟨b, off + k * 3 + 2, none⟩ = some (.int .i64 s2) := hc 2 _ (by rw [hf]; rfl)
          have ew := IntWalk.i64_in ((k : Int) + 1) (by omega)
          have HT1 := Lib.hid (HT.out.onto (below_alloc wr (.cells #[.int .i64 s0, .int .i64 s1, .int .i64 s2] 26)))
          clear hc hf hw0 hw1 hw2
          have HX := Lib.hid (Holds.new wr 26 #[.int .i64 s0, .int .i64 s1, .int .i64 s2])
          have hzx : wr.heap.size ≠ z := Nat.ne_of_gt HT.out.a.lt
          clear HT
          by_cases hok : CanE (s0, s1, s2) ∧ Later L (s0, s1, s2)
          · have hadd := add_any s0 s1 s2 _ _ _ _ _ _ L HT1.out.a hok.1 hok.2
            have HL := Lib.hid (HE.out.later hok.2)
            have HC := Lib.hid hok.1
            have ew3 := IntWalk.i64_in ((n : Int) + 1) (by omega)
            clear hok
            go_wp2_with (first
              | (go_at_call 9; (with_reducible refine hadd.mono ?_); rintro e w4 ⟨rfl, ht4, hc4⟩; have HT4 := Lib.hid (HT1.out.stepA ht4 hc4); have hx4 := HX.out.chg hc4 hzx; have e0 := hx4.cell 0; have e1 := hx4.cell 1; have e2 := hx4.cell 2; clear ht4 hc4 hx4; have hadd2 := add_any s0 s1 s2 w4 _ _ _ _ _ M HT4.out.b HC.out HL.out)
              | (go_at_call 9; (with_reducible refine hadd2.mono ?_); rintro e w5 ⟨rfl, ht5, hc5⟩; have HT5 := Lib.hid (HT4.out.stepB ht5 hc5); clear ht5 hc5))
            go_roundw
            case rel => exact ⟨k + 1, n + 1, _, _, by omega, by omega, by go_num, by go_num, HT5.out, HE.out.push _⟩
            case measure => simp [intOf]; omega
          · have hadd := add_other s0 s1 s2 _ _ _ _ _ _ L HT1.out.a hok
            clear hok
            go_wp2_with (go_at_call 9; (with_reducible refine hadd.mono ?_); rintro e w4 ⟨v, rfl, hv, hb4⟩; have HT4 := Lib.hid (HT1.out.onto hb4); clear hb4)
            go_roundw
            case rel => exact ⟨k + 1, n, L, M, by omega, by omega, by go_num, rfl, HT4.out, HE.out⟩
            case measure => simp [intOf]; omega
        · clear hk
          by_cases hn8 : n < 8
          · have dn : decide ((n : Int) < 8) = true := decide_eq_true (by omega)
            have dn2 : (n : Int) < 8 := by omega
            go_wp2
            go_ret
            exact ⟨rfl, HT.out.below⟩
          · have dn : decide ((n : Int) < 8) = false := decide_eq_false (by omega)
            have dn2 : ¬ (n : Int) < 8 := by omega
            obtain ⟨hML, hl8⟩ := HE.out.same (by omega)
            subst hML
            have H8 := Lib.hid hl8
            have hla := list_any wr _ M HT.out.a.src
            clear hl8
            have ha := fun W (hW : Below wr.heap.size wr W) => hops_any W _ M (HT.out.a.below hW).src
            have hb := fun W (hW : Below wr.heap.size wr W) => hops_any W _ M (HT.out.b.below hW).src
            have HA := Lib.hid ha
            have HBb := Lib.hid hb
            have hmm : (mostL M != mostL M) = false := by simp
            obtain ⟨mm, hmm'⟩ : ∃ mm, mostL M = mm := ⟨_, rfl⟩
            rw [hmm'] at hmm
            rw [hmm'] at HA HBb
            clear ha hb hmm'
            go_wp2_with (first
              | (go_at_call 12; (with_reducible refine hla.mono ?_); rintro e w4 ⟨c4, rfl, ho4, hb4⟩; rw [H8.out] at ho4 ⊢; have HO4 := Lib.hid ho4; have HB4 := Lib.hid hb4; have hlb := list_any w4 _ M (HT.out.b.below hb4).src; clear ho4 hb4)
              | (go_at_call 12; (with_reducible refine hlb.mono ?_); rintro e w5 ⟨c5, rfl, ho5, hb5⟩; rw [H8.out] at ho5 ⊢; have HO5 := Lib.hid ho5; have HO4b := Lib.hid (own_keep' HO4.out hb5); have HB5 := Lib.hid (HB4.out.trans (hb5.mono HB4.out.size)); have ha := HA.out w5 HB5.out; clear ho5 hb5)
              | (go_at_call 11; (with_reducible refine ha.mono ?_); rintro e w6 ⟨rfl, hb6⟩; have HB6 := Lib.hid (HB5.out.trans (hb6.mono HB5.out.size)); have HO4c := Lib.hid (own_keep' HO4b.out hb6); have HO5c := Lib.hid (own_keep' HO5.out hb6); have hbh := HBb.out w6 HB6.out; clear hb6)
              | (go_at_call 11; (with_reducible refine hbh.mono ?_); rintro e w7 ⟨rfl, hb7⟩; have HB7 := Lib.hid (HB6.out.trans (hb7.mono HB6.out.size)); have HO4d := Lib.hid (own_keep' HO4c.out hb7); have HO5d := Lib.hid (own_keep' HO5c.out hb7); clear hb7))
            obtain ⟨g4, hg4⟩ : ∃ g4, wr.heap.size = g4 := ⟨_, rfl⟩
            obtain ⟨g5, hg5⟩ : ∃ g5, w4.heap.size = g5 := ⟨_, rfl⟩
            rw [hg4] at HO4d
            rw [hg5] at HO5d
            simp only [hg4, hg5]
            have HBz := Lib.hid (HT.out.below.trans (HB7.out.mono HT.out.below.size))
            clear hg4 hg5 HO4 HO4b HO4c HO5 HO5c HB4 HB5 HB6 HB7 HT HE hla hlb ha hbh HA HBb
            go_loopw [68] (fun i ws => ∃ j : Nat, j ≤ 8 ∧ i = .int .i64 (j : Int) ∧ Below w7.heap.size w7 ws) (fun i _ => 8 - (intOf i).toNat)
            case atStart => exact ⟨0, Nat.zero_le _, rfl, Below.refl _ _⟩
            case round =>
              obtain ⟨j, hj, rfl, hbj⟩ := hrel
              have HBj := Lib.hid hbj
              clear hbj
              by_cases hjl : j < 8
              · obtain ⟨x, hx⟩ : ∃ x, M[j]? = some x := ⟨_, List.getElem?_eq_getElem (by rw [H8.out]; exact hjl)⟩
                obtain ⟨x0, x1, x2⟩ := ents_at (own_keep' HO4d.out HBj.out) hx
                obtain ⟨y0, y1, y2⟩ := ents_at (own_keep' HO5d.out HBj.out) hx
                obtain ⟨X, Y, Z⟩ := x
                dsimp only at x0 x1 x2 y0 y1 y2
                have w2' := IntWalk.i64_in ((j : Int) + 1) (by omega)
                have l1 : (j : Int) < 8 := by omega
                clear hx
                go_upto_region 28 with (fail)
                go_quiet (fail)
                go_wp2
                go_roundw
                case rel => exact ⟨j + 1, by omega, by go_num, below_drewN HBj.out _⟩
                case measure => simp [intOf]; omega
              · have l1 : ¬ (j : Int) < 8 := by omega
                have l2 : decide ((j : Int) < 8) = false := decide_eq_false l1
                go_wp2
                go_ret
                exact ⟨rfl, HBz.out.trans (HBj.out.mono HBz.out.size)⟩

set_option maxRecDepth 100000 in
theorem lifted (os : Os) (started : os.Started) (H : Type) (enc : TypeId × Value → H) :
    ReturnsInHanded {} Try.checked os 5 .any (Rows.tableNewestSpec.pre6 enc Try.prog Try.f5 Rows.tableNewestRow.domain false) (Rows.tableNewestSpec.post enc Try.prog Try.f5 false true false false) := by
  refine returnsInHanded_of_change (C := Try.checked) own started (by kernel_rfl) Try.func5
    (ChangeSpec.witness6 (enc := enc) (C := Try.checked) false ⟨#[], #[.slice none 0 0, .slice none 0 0], []⟩ 8 (by kernel_rfl) (by kernel_rfl) (by kernel_rfl) (by kernel_rfl)) ?_
  intro W base args ds gs before hval0 hW hcnd _
  have hval : ∀ (j : Nat) t v, Try.f5.params[j]? = some t → args[j]? = some v → Value.okWide Try.prog W .any base t v := hval0
  have hW' := hW
  obtain ⟨p, q, hA0, hV, rfl, hfz, hnd⟩ := hW
  have hA : DataW.TrodAll enc Try.prog W 0 (fun _ => true) true Try.f5.params.toList args.toList ds p := hA0
  have hAk := hA
  rw [Try.params5] at hA hval
  obtain ⟨v0, vs0, d0, ds0, p0, q0, hargs, rfl, hp, h0, r0⟩ := trodAll_cons hA
  obtain ⟨v1, vs1, d1, ds1, p1, q1, rfl, rfl, rfl, h1, r1⟩ := trodAll_cons r0
  obtain ⟨rfl, rfl, rfl⟩ := trodAll_nil r1
  obtain rfl : args = #[v0, v1] := by cases args; simp_all
  obtain ⟨rfl, rfl⟩ := trodVars_none hV
  clear hA0 hval0 hargs
  simp only [List.append_nil] at hW'
  have hend : ∀ W' : World, Below W.heap.size W W' → Rows.tableNewestSpec.post enc Try.prog Try.f5 false true false false W #[v0, v1] (.bool true) W' := fun W' hb =>
    law_post (tb := 4) hW' hAk rfl (by kernel_rfl) (by kernel_rfl) (by kernel_rfl) Try.underlying4 rfl rfl rfl hb
  clear hW' hAk hp
  obtain ⟨A0, n0, c0, f0, rfl, w0⟩ := flats_arg (ks := [.int .i64, .int .i64, .int .i64]) 9 Try.underlying22 (by kernel_rfl) (by kernel_rfl) (by decide) (hval 0 22 v0 rfl rfl) h0
  obtain ⟨A1, n1, c1, f1, rfl, w1⟩ := flats_arg (ks := [.int .i64, .int .i64, .int .i64]) 9 Try.underlying22 (by kernel_rfl) (by kernel_rfl) (by decide) (hval 1 22 v1 rfl rfl) h1
  refine (walk A0 n0 c0 f0 A1 n1 c1 f1 W w0 w1).mono fun e W' ⟨he, hg⟩ => ?_
  subst he
  exact ⟨_, rfl, hend W' hg⟩

theorem over : Rows.tableNewestRow.holds Try.pinned (OpenSpec.ofChange Rows.tableNewestSpec) :=
  OpenClaim.holds_of_wide 5 Try.f5 rfl rfl rfl rfl rfl rfl rfl ⟨rfl, rfl, rfl, rfl, rfl⟩ rfl rfl rfl rfl rfl (by kernel_rfl) Try.func5 (by kernel_rfl)
    (of_decide_eq_true (by kernel_rfl)) (by unfold Func.isWrapper; first | (rw [if_pos (by decide +kernel)]; kernel_rfl) | (rw [if_neg (by decide +kernel)]; exact ⟨rfl, rfl⟩))
    (fun os started H enc _ => lifted os started H enc)

/-- THE STATEMENT -/
theorem proved : Rows.TableNewestSaid :=
  over
#print axioms proved
end Go.Proofs.Ytfeemjkjgbjejaa.tableNewest

/-
  A row that was cleared is as a new one, whatever was in it: the law answers true, whatever the input.
  The walk is the prover's own; the frame of the row's step follows the kit's template.
-/
import Derived.Test.YtcbfpejlbbgdjaaRows
import Derived.Test.YtcbfpejlbbgdjaaLawKit
import Derived.Test.YtcbfpejlbbgdjaaFlat
import Derived.Test.YtcbfpejlbbgdjaaRgF
import Derived.LoopTactic
import Derived.Deep.CutBlock
namespace Go.Proofs.Ytcbfpejlbbgdjaa.ringAgain
open Go.ChangeShapes Go.WideShapes Go.ChangeAt Go.RowKit Go.ChangeMaps Go.WideElems
set_option linter.unusedVariables false

theorem cells1 {W : World} {vs : List Value} (h : Fit W [.int .i64, .int .i64] vs) : ∃ (s0 : Int) (s1 : Int), vs = [.int .i64 s0, .int .i64 s1] ∧ (Lit.int .i64 s0).wf = true ∧ (Lit.int .i64 s1).wf = true := by
  match vs, h.length, h with
  | [y0, y1], _, h =>
    obtain ⟨⟨x0, rfl, h0⟩, ⟨x1, rfl, h1⟩, _⟩ := h
    exact ⟨x0, x1, rfl, h0, h1⟩
theorem own : ownKnob Try.prog.godebug = none := by kernel_rfl
set_option linter.unusedSimpArgs false in
set_option maxHeartbeats 4000000 in
set_option maxRecDepth 100000 in
theorem walk (a0 : Int) (A1 : Option Addr) (n1 c1 : Nat) (f1 : Nat → List Value) (A2 : Option Addr) (n2 c2 : Nat) (z2 : List Int) (w : World) (w0 : (Lit.int .i64 a0).wf = true) (w1 : FlatRow w [.int .i64, .int .i64] A1 n1 c1 f1) (w2 : IntRow w .i64 A2 n2 c2 z2) :
    Calls Try.prog 6 #[.int .i64 a0, .slice A1 n1 c1, .slice A2 n2 c2] w fun e w' => e = .returned (.bool true) ∧ Below w.heap.size w w' := by
  by_cases h1 : a0 < 1
  · go_enter Try.func6, Try.ntmps6
    go_wp2_with (first
      | ((go_at_call 7; refine (alive_yes _).mono ?_; rintro e w1 ⟨rfl, hb1⟩))
      | ((go_at_call 8; (have := hb2); clear this; refine (hnew _).mono ?_; rintro e w3 ⟨rfl, hr3, hb3, hs3⟩))
      | ((go_at_call 8; refine (hnew _).mono ?_; rintro e w2 ⟨rfl, hr2, hb2, hs2⟩)))
    go_ret
    exact ⟨rfl, hb1⟩
  have d1 : decide (a0 < 1) = false := decide_eq_false h1
  by_cases h2 : 64 < a0
  · go_enter Try.func6, Try.ntmps6
    go_wp2_with (first
      | ((go_at_call 7; refine (alive_yes _).mono ?_; rintro e w1 ⟨rfl, hb1⟩))
      | ((go_at_call 8; (have := hb2); clear this; refine (hnew _).mono ?_; rintro e w3 ⟨rfl, hr3, hb3, hs3⟩))
      | ((go_at_call 8; refine (hnew _).mono ?_; rintro e w2 ⟨rfl, hr2, hb2, hs2⟩)))
    go_ret
    exact ⟨rfl, hb1⟩
  have d2 : decide (64 < a0) = false := decide_eq_false h2
  by_cases h3 : 200 < n1
  · have d3 : decide ((200 : Int) < (n1 : Int)) = true := decide_eq_true (by omega)
    go_enter Try.func6, Try.ntmps6
    go_wp2_with (first
      | ((go_at_call 7; refine (alive_yes _).mono ?_; rintro e w1 ⟨rfl, hb1⟩))
      | ((go_at_call 8; (have := hb2); clear this; refine (hnew _).mono ?_; rintro e w3 ⟨rfl, hr3, hb3, hs3⟩))
      | ((go_at_call 8; refine (hnew _).mono ?_; rintro e w2 ⟨rfl, hr2, hb2, hs2⟩)))
    go_ret
    exact ⟨rfl, hb1⟩
  have d3 : decide ((200 : Int) < (n1 : Int)) = false := decide_eq_false (by omega)
  by_cases h4 : 100 < n2
  · have d4 : decide ((100 : Int) < (n2 : Int)) = true := decide_eq_true (by omega)
    go_enter Try.func6, Try.ntmps6
    go_wp2_with (first
      | ((go_at_call 7; refine (alive_yes _).mono ?_; rintro e w1 ⟨rfl, hb1⟩))
      | ((go_at_call 8; (have := hb2); clear this; refine (hnew _).mono ?_; rintro e w3 ⟨rfl, hr3, hb3, hs3⟩))
      | ((go_at_call 8; refine (hnew _).mono ?_; rintro e w2 ⟨rfl, hr2, hb2, hs2⟩)))
    go_ret
    exact ⟨rfl, hb1⟩
  have d4 : decide ((100 : Int) < (n2 : Int)) = false := decide_eq_false (by omega)
  obtain ⟨room, rfl⟩ : ∃ room : Nat, a0 = room := ⟨a0.toNat, by omega⟩
  have hnew := fun W => RI.new_any W room (by omega) (by omega)
  have R1 := Lib.hid w1
  have R2 := Lib.hid w2
  have hcap1 := w1.cap_le
  have hmx1 := w1.max
  unfold maxLen at hmx1
  clear w0 w1 w2
  go_enter Try.func6, Try.ntmps6
  go_wp2_with (first
    | ((go_at_call 7; refine (alive_yes _).mono ?_; rintro e w1 ⟨rfl, hb1⟩))
    | ((go_at_call 8; (have := hb2); clear this; refine (hnew _).mono ?_; rintro e w3 ⟨rfl, hr3, hb3, hs3⟩))
    | ((go_at_call 8; refine (hnew _).mono ?_; rintro e w2 ⟨rfl, hr2, hb2, hs2⟩)))
  obtain ⟨z, hz⟩ : ∃ z, w1.heap.size = z := ⟨_, rfl⟩
  rw [hz] at hr2 hs2
  rw [hs2] at hr3 hs3
  simp only [hz, hs2]
  have hwz : w.heap.size ≤ z := by rw [← hz]; exact hb1.size
  have hbb := hb1.trans (hb2.mono hb1.size)
  have htwo : Two w z room [] [] w3 := ⟨hr2.below hb3, hr3, hbb.trans (hb3.mono hbb.size), hwz⟩
  have HT0 := Lib.hid htwo
  clear hb1 hb2 hb3 hr2 hr3 hz hs2 hs3 hbb htwo hnew
  simp only [show z + 2 + 1 = z + 3 from rfl]
  go_loopw [50] (fun i wr => ∃ (k : Nat) (L : List Int), k ≤ n1 ∧ i = .int .i64 (k : Int) ∧ Two w z room L [] wr) (fun i _ => n1 - (intOf i).toNat)
  case atStart => exact ⟨0, [], Nat.zero_le _, rfl, HT0.out⟩
  case round =>
    obtain ⟨k, L, hk, rfl, hT⟩ := hrel
    have HT := Lib.hid hT
    clear HT0 hT
    by_cases hlt : k < n1
    · obtain ⟨b, off, rfl, hb', hc⟩ := (R1.out.below HT.out.below).at 2 rfl hlt
      obtain ⟨s0, s1, hf, hw0, hw1⟩ := cells1 (R1.out.fit k hlt)
      have q0 : wr.cell? ⟨b, off + k * 2, none⟩ = some (.int .i64 s0) := hc 0 _ (by rw [hf]; rfl)
      have q1 : wr.cell? ⟨b, off + k * 2 + 1, none⟩ = some (.int .i64 s1) := hc 1 _ (by rw [hf]; rfl)
      have HT2 := Lib.hid (HT.out.onto (below_alloc wr (.cells #[.int .i64 s0, .int .i64 s1] 38)))
      have ew := IntWalk.i64_in ((k : Int) + 1) (by omega)
      clear hc hf
      by_cases hs : s0 < 2
      · have hpush := push_some _ _ _ _ _ _ s1 HT2.out.a
        go_wp2_with (go_at_call 11; (with_reducible refine hpush.mono ?_); rintro e w4 ⟨v, L4, rfl, hr4, hc4⟩; have HT4 := Lib.hid (HT2.out.stepA hr4 hc4); clear hr4 hc4)
        go_roundw
        case rel => exact ⟨k + 1, L4, by omega, by go_num, HT4.out⟩
        case measure => simp [intOf]; omega
      · have ds : decide (s0 < 2) = false := decide_eq_false hs
        have hpop := pop_some _ _ _ _ _ _ HT2.out.a
        go_wp2_with (go_at_call 10; (with_reducible refine hpop.mono ?_); rintro e w4 ⟨v, ok, L4, rfl, hr4, hc4⟩; have HT4 := Lib.hid (HT2.out.stepA hr4 hc4); clear hr4 hc4)
        go_roundw
        case rel => exact ⟨k + 1, L4, by omega, by go_num, HT4.out⟩
        case measure => simp [intOf]; omega
    · have hcl := RI.clear_any _ _ _ _ _ _ HT.out.a
      clear hk
      go_wp2_with (go_at_call 9; (with_reducible refine hcl.mono ?_); rintro e w4 ⟨rfl, hr4, hc4⟩; have HT4 := Lib.hid (HT.out.stepA hr4 hc4); clear hr4 hc4)
      clear HT hcl
      go_loopw [68] (fun i wr => ∃ (k : Nat) (M : List Int), k ≤ n2 ∧ i = .int .i64 (k : Int) ∧ Two w z room M M wr) (fun i _ => n2 - (intOf i).toNat)
      case atStart => exact ⟨0, [], Nat.zero_le _, rfl, HT4.out⟩
      case round =>
        obtain ⟨m, M, hm, rfl, hT⟩ := hrel
        have HT := Lib.hid hT
        clear HT4 hT
        by_cases hlt2 : m < n2
        · obtain ⟨b, off, rfl, hbw, hc⟩ := R2.out.cell (by omega)
          have q := (HT.out.below.cell (p := ⟨b, off + m, none⟩) hbw).trans (hc m hlt2)
          rw [List.getD_eq_getElem?_getD] at q
          obtain ⟨X, hX⟩ : ∃ X, z2[m]?.getD 0 = X := ⟨_, rfl⟩
          rw [hX] at q
          have ew := IntWalk.i64_in ((m : Int) + 1) (by omega)
          clear hc hX
          by_cases hlr : M.length < room
          · have hp1 := RI.push_any _ _ _ _ _ _ X HT.out.a hlr
            have dne : (((M ++ [X]).length : Int) != ((M ++ [X]).length : Int)) = false := by simp
            obtain ⟨M2, hM2⟩ : ∃ M2, M ++ [X] = M2 := ⟨_, rfl⟩
            rw [hM2] at dne
            have HM2 := Lib.hid hM2
            obtain ⟨l, hl⟩ : ∃ l, M2.length = l := ⟨_, rfl⟩
            have HL2 := Lib.hid hl
            rw [hl] at dne
            clear hM2 hl
            go_wp2_with (first
              | (go_at_call 12; (with_reducible refine hl1.mono ?_); rintro e w' ⟨rfl, rfl⟩)
              | (go_at_call 12; (with_reducible refine hl2.mono ?_); rintro e w' ⟨rfl, rfl⟩)
              | (go_at_call 11; (with_reducible refine hp1.mono ?_); rintro e w5 ⟨rfl, hr5, hc5⟩; have HT5 := Lib.hid (HT.out.stepA hr5 hc5); clear hr5 hc5; have hp2 := RI.push_any _ _ _ _ _ _ X HT5.out.b hlr)
              | (go_at_call 11; (with_reducible refine hp2.mono ?_); rintro e w6 ⟨rfl, hr6, hc6⟩; have HT6 := HT5.out.stepB hr6 hc6; rw [HM2.out] at HT6; have HT6 := Lib.hid HT6; clear hr6 hc6; have hl1 := RI.len_any _ _ _ _ _ _ HT6.out.a; have hl2 := RI.len_any _ _ _ _ _ _ HT6.out.b; rw [HL2.out] at hl1 hl2))
            go_roundw
            case rel => exact ⟨m + 1, M2, by omega, by go_num, HT6.out⟩
            case measure => simp [intOf]; omega
          · have hfull : M.length = room := by have := HT.out.a.len; omega
            have hp1 := RI.push_full _ _ _ _ _ _ X HT.out.a hfull
            obtain ⟨l, hl⟩ : ∃ l, M.length = l := ⟨_, rfl⟩
            have HL2 := Lib.hid hl
            have dne : ((l : Int) != (l : Int)) = false := by simp
            have HF := Lib.hid hfull
            clear hl hfull hlr
            go_wp2_with (first
              | (go_at_call 12; (with_reducible refine hl1.mono ?_); rintro e w' ⟨rfl, rfl⟩)
              | (go_at_call 12; (with_reducible refine hl2.mono ?_); rintro e w' ⟨rfl, rfl⟩)
              | (go_at_call 11; (with_reducible refine hp1.mono ?_); rintro e w5 ⟨rfl, hb5⟩; have HT5 := Lib.hid (HT.out.onto hb5); clear hb5; have hp2 := RI.push_full _ _ _ _ _ _ X HT5.out.b HF.out)
              | (go_at_call 11; (with_reducible refine hp2.mono ?_); rintro e w6 ⟨rfl, hb6⟩; have HT6 := Lib.hid (HT5.out.onto hb6); clear hb6; have hl1 := RI.len_any _ _ _ _ _ _ HT6.out.a; have hl2 := RI.len_any _ _ _ _ _ _ HT6.out.b; rw [HL2.out] at hl1 hl2))
            go_roundw
            case rel => exact ⟨m + 1, M, by omega, by go_num, HT6.out⟩
            case measure => simp [intOf]; omega
        · have hMr := HT.out.a.len
          clear hm
          go_wp2
          go_loopw [15] (fun i wr => ∃ (j : Nat) (N : List Int), j ≤ room + 1 ∧ i = .int .i64 (j : Int) ∧ N.length ≤ room - j ∧ Two w z room N N wr) (fun i _ => room + 1 - (intOf i).toNat)
          case atStart => exact ⟨0, M, by omega, rfl, by omega, HT.out⟩
          case round =>
            obtain ⟨j, N, hj, rfl, hN, hT⟩ := hrel
            have HT3 := Lib.hid hT
            clear HT hT
            have hroom := HT3.out.a.fits
            by_cases hjr : j ≤ room
            · have ej := IntWalk.i64_in ((j : Int) + 1) (by omega)
              match N, HT3, hN with
              | [], HT3, hN =>
                have hp1 := RI.pop_none _ _ _ _ _ HT3.out.a
                have hp2 := RI.pop_none _ _ _ _ _ HT3.out.b
                go_wp2_with (first
                  | (go_at_call 10; (with_reducible refine hp1.mono ?_); rintro e w' ⟨rfl, rfl⟩)
                  | (go_at_call 10; (with_reducible refine hp2.mono ?_); rintro e w' ⟨rfl, rfl⟩))
                go_roundw
                case rel => exact ⟨j + 1, [], by omega, by go_num, Nat.zero_le _, HT3.out⟩
                case measure => simp [intOf]; omega
              | y :: N, HT3, hN =>
                rw [List.length_cons] at hN
                have hp1 := RI.pop_any _ _ _ _ _ _ _ HT3.out.a
                have dyy : (y != y) = false := by simp
                go_wp2_with (first
                  | (go_at_call 10; (with_reducible refine hp1.mono ?_); rintro e w5 ⟨rfl, hr5, hc5⟩; have HT5 := Lib.hid (HT3.out.stepA hr5 hc5); clear hr5 hc5; have hp2 := RI.pop_any _ _ _ _ _ _ _ HT5.out.b)
                  | (go_at_call 10; (with_reducible refine hp2.mono ?_); rintro e w6 ⟨rfl, hr6, hc6⟩; have HT6 := Lib.hid (HT5.out.stepB hr6 hc6); clear hr6 hc6))
                go_roundw
                case rel => exact ⟨j + 1, N, by omega, by go_num, by omega, HT6.out⟩
                case measure => simp [intOf]; omega
            · have hN0 : N = [] := List.eq_nil_of_length_eq_zero (by omega)
              subst hN0
              have hl := RI.len_any _ _ _ _ _ _ HT3.out.a
              have djr : ¬ j ≤ room := hjr
              go_wp2_with (go_at_call 12; (with_reducible refine hl.mono ?_); rintro e w' ⟨rfl, rfl⟩)
              go_ret
              exact ⟨rfl, HT3.out.below⟩

set_option maxRecDepth 100000 in
theorem lifted (os : Os) (started : os.Started) (H : Type) (enc : TypeId × Value → H) :
    ReturnsInHanded {} Try.checked os 6 .any (Rows.ringAgainSpec.pre6 enc Try.prog Try.f6 Rows.ringAgainRow.domain false) (Rows.ringAgainSpec.post enc Try.prog Try.f6 false true false false) := by
  refine returnsInHanded_of_change (C := Try.checked) own started (by kernel_rfl) Try.func6
    (ChangeSpec.witness6 (enc := enc) (C := Try.checked) false ⟨#[], #[.int .i64 0, .slice none 0 0, .slice none 0 0], []⟩ 8 (by kernel_rfl) (by kernel_rfl) (by kernel_rfl) (by kernel_rfl)) ?_
  intro W base args ds gs before hval0 hW hcnd _
  have hval : ∀ (j : Nat) t v, Try.f6.params[j]? = some t → args[j]? = some v → Value.okWide Try.prog W .any base t v := hval0
  have hW' := hW
  obtain ⟨p, q, hA0, hV, rfl, hfz, hnd⟩ := hW
  have hA : DataW.TrodAll enc Try.prog W 0 (fun _ => true) true Try.f6.params.toList args.toList ds p := hA0
  have hAk := hA
  rw [Try.params6] at hA hval
  obtain ⟨v0, vs0, d0, ds0, p0, q0, hargs, rfl, hp, h0, r0⟩ := trodAll_cons hA
  obtain ⟨v1, vs1, d1, ds1, p1, q1, rfl, rfl, rfl, h1, r1⟩ := trodAll_cons r0
  obtain ⟨v2, vs2, d2, ds2, p2, q2, rfl, rfl, rfl, h2, r2⟩ := trodAll_cons r1
  obtain ⟨rfl, rfl, rfl⟩ := trodAll_nil r2
  obtain rfl : args = #[v0, v1, v2] := by cases args; simp_all
  obtain ⟨rfl, rfl⟩ := trodVars_none hV
  clear hA0 hval0 hargs
  simp only [List.append_nil] at hW'
  have hend : ∀ W' : World, Below W.heap.size W W' → Rows.ringAgainSpec.post enc Try.prog Try.f6 false true false false W #[v0, v1, v2] (.bool true) W' := fun W' hb =>
    law_post (tb := 4) hW' hAk rfl (by kernel_rfl) (by kernel_rfl) (by kernel_rfl) Try.underlying4 rfl rfl rfl hb
  clear hW' hAk hp
  obtain ⟨a0, rfl, rfl, rfl, w0⟩ := open_int Try.underlying3 (hval 0 3 v0 rfl rfl) h0
  obtain ⟨A1, n1, c1, f1, rfl, w1⟩ := flats_arg (ks := [.int .i64, .int .i64]) 9 Try.underlying22 (by kernel_rfl) (by kernel_rfl) (by decide) (hval 1 22 v1 rfl rfl) h1
  obtain ⟨A2, n2, c2, z2, rfl, w2⟩ := ints_arg Try.underlying34 Try.underlying3 (by kernel_rfl) (hval 2 34 v2 rfl rfl) h2
  refine (walk a0 A1 n1 c1 f1 A2 n2 c2 z2 W w0 w1 w2).mono fun e W' ⟨he, hg⟩ => ?_
  subst he
  exact ⟨_, rfl, hend W' hg⟩

theorem over : Rows.ringAgainRow.holds Try.pinned (OpenSpec.ofChange Rows.ringAgainSpec) :=
  OpenClaim.holds_of_wide 6 Try.f6 rfl rfl rfl rfl rfl rfl rfl ⟨rfl, rfl, rfl, rfl, rfl⟩ rfl rfl rfl rfl rfl (by kernel_rfl) Try.func6 (by kernel_rfl)
    (of_decide_eq_true (by kernel_rfl)) (by unfold Func.isWrapper; first | (rw [if_pos (by decide +kernel)]; kernel_rfl) | (rw [if_neg (by decide +kernel)]; exact ⟨rfl, rfl⟩))
    (fun os started H enc _ => lifted os started H enc)

/-- THE STATEMENT -/
theorem proved : Rows.RingAgainSaid :=
  over
#print axioms proved
end Go.Proofs.Ytcbfpejlbbgdjaa.ringAgain

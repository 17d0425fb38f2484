/-
  Links go both ways, and no two that have one are reached from a third one by numbers of links that differ by more than 1.
  The walk is the prover's own; the frame of the row's step follows the kit's template.
-/
import Derived.Test.YtfekblikiemogaaDoorRows
import Derived.Test.YtfekblikiemogaaDoorLawKit
import Derived.Test.YtfekblikiemogaaDoorCards
import Derived.Test.YtfekblikiemogaaDoorTie
import Derived.SevenTiedAt
import Derived.Test.YtfekblikiemogaaDoorFlat
import Derived.Test.YtfekblikiemogaaDoorLkQ
import Derived.Test.YtfekblikiemogaaDoorLkT
import Derived.Test.YtfekblikiemogaaDoorTurn
import Derived.LoopTactic
import Derived.Deep.QuietTactic
import Derived.BigQuiet
namespace Go.Proofs.YtfekblikiemogaaDoor.linksNear
open Go.ChangeShapes Go.WideShapes Go.ChangeAt Go.RowKit Go.ChangeMaps Go.WideElems
set_option linter.unusedVariables false

theorem cells1 {W : World} {vs : List Value} (h : Fit W [.int .i64, .int .i64, .bool] vs) : ∃ (s0 : Int) (s1 : Int) (s2 : Bool), vs = [.int .i64 s0, .int .i64 s1, .bool s2] ∧ (Lit.int .i64 s0).wf = true ∧ (Lit.int .i64 s1).wf = true := by
  match vs, h.length, h with
  | [y0, y1, y2], _, h =>
    obtain ⟨⟨x0, rfl, h0⟩, ⟨x1, rfl, h1⟩, ⟨x2, rfl⟩, _⟩ := h
    exact ⟨x0, x1, x2, rfl, h0, h1⟩
theorem own : ownKnob Tryd.prog.godebug = none := by kernel_rfl
set_option linter.unusedSimpArgs false in
set_option maxHeartbeats 4000000 in
set_option maxRecDepth 100000 in
theorem walk (a0 : Int) (A1 : Option Addr) (n1 c1 : Nat) (f1 : Nat → List Value) (a2 : Int) (w : World) (w0 : (Lit.int .i64 a0).wf = true) (w1 : FlatRow w [.int .i64, .int .i64, .bool] A1 n1 c1 f1) (w2 : (Lit.int .i64 a2).wf = true) (hT : Tab w) :
    Calls Tryd.prog 5 #[.int .i64 a0, .slice A1 n1 c1, .int .i64 a2] w fun e w' => e = .returned (.bool true) ∧ Below w.heap.size w w' := by
  have HT := Lib.hid hT
  have ht0 := hT.2
  clear hT
  by_cases hneg : a0 < 1
  · go_enter Tryd.func5, Tryd.ntmps5
    go_wp2_with (first
      | ((go_at_call 9; refine (alive_yes _ HT.out).mono ?_; rintro e w1 ⟨rfl, hb1⟩; have HB1 := Lib.hid hb1; clear hb1))
      | ((go_at_call 10; refine (hnew _).mono ?_; rintro e w2 ⟨rfl, hl2, hb2, hs2⟩; have HL2 := Lib.hid hl2; have HB2 := Lib.hid hb2; clear hl2 hb2)))
    go_ret
    exact ⟨rfl, HB1.out⟩
  by_cases hbig : 64 < a0
  · go_enter Tryd.func5, Tryd.ntmps5
    go_wp2_with (first
      | ((go_at_call 9; refine (alive_yes _ HT.out).mono ?_; rintro e w1 ⟨rfl, hb1⟩; have HB1 := Lib.hid hb1; clear hb1))
      | ((go_at_call 10; refine (hnew _).mono ?_; rintro e w2 ⟨rfl, hl2, hb2, hs2⟩; have HL2 := Lib.hid hl2; have HB2 := Lib.hid hb2; clear hl2 hb2)))
    go_ret
    exact ⟨rfl, HB1.out⟩
  by_cases hlong : 100 < n1
  · go_enter Tryd.func5, Tryd.ntmps5
    go_wp2_with (first
      | ((go_at_call 9; refine (alive_yes _ HT.out).mono ?_; rintro e w1 ⟨rfl, hb1⟩; have HB1 := Lib.hid hb1; clear hb1))
      | ((go_at_call 10; refine (hnew _).mono ?_; rintro e w2 ⟨rfl, hl2, hb2, hs2⟩; have HL2 := Lib.hid hl2; have HB2 := Lib.hid hb2; clear hl2 hb2)))
    go_ret
    exact ⟨rfl, HB1.out⟩
  obtain ⟨n, rfl⟩ : ∃ n : Nat, a0 = n := ⟨a0.toNat, by omega⟩
  have hn1 : 1 ≤ n := by omega
  have hn2 : n ≤ 64 := by omega
  have hnew := fun W => new_any W n hn1 (by omega)
  have d1 : decide ((n : Int) < 1) = false := decide_eq_false (by omega)
  have d2 : decide (64 < (n : Int)) = false := decide_eq_false (by omega)
  have d3 : decide (100 < (n1 : Int)) = false := decide_eq_false (by omega)
  have R := Lib.hid w1
  clear w1 hneg hbig hlong
  go_enter Tryd.func5, Tryd.ntmps5
  go_wp2_with (first
    | ((go_at_call 9; refine (alive_yes _ HT.out).mono ?_; rintro e w1 ⟨rfl, hb1⟩; have HB1 := Lib.hid hb1; clear hb1))
    | ((go_at_call 10; refine (hnew _).mono ?_; rintro e w2 ⟨rfl, hl2, hb2, hs2⟩; have HL2 := Lib.hid hl2; have HB2 := Lib.hid hb2; clear hl2 hb2)))
  obtain ⟨g, hg⟩ : ∃ g, w1.heap.size + 1 = g := ⟨_, rfl⟩
  obtain ⟨r, hr⟩ : ∃ r, w1.heap.size = r := ⟨_, rfl⟩
  have hrun : SRun w n g r (List.replicate n 0) w2 := by
    rw [← hg, ← hr]
    exact SRun.new hn1 (by omega) HT.out HB1.out HL2.out HB2.out
  have hrw : w.heap.size ≤ r := by rw [← hr]; exact HB1.out.size
  simp only [hg]
  have HRun := Lib.hid hrun
  clear hrun HL2 hg hr
  go_loopw [34] (fun i wr => ∃ (k : Nat) (M : List Nat), k ≤ n1 ∧ i = .int .i64 k ∧ SRun w n g r M wr) (fun i _ => n1 - (intOf i).toNat)
  case atStart => exact ⟨0, _, Nat.zero_le _, rfl, HRun.out⟩
  case round =>
    obtain ⟨k, M, hk, rfl, hrun⟩ := hrel
    clear HRun
    have HRun := Lib.hid hrun
    clear hrun
    by_cases hlt : k < n1
    · have hcap := R.out.cap_le
      have hmx := R.out.max
      unfold maxLen at hmx
      obtain ⟨b, off, rfl, hb', hc⟩ := (R.out.below HRun.out.below).at 3 rfl hlt
      obtain ⟨s0, s1, s2, hf, hw1, hw2⟩ := cells1 (R.out.fit k hlt)
      have q0 : wr.cell? ⟨b, off + k * 3, none⟩ = some (.int .i64 s0) := hc 0 _ (by rw [hf]; rfl)
      have q1 : wr.cell? ⟨b, off + k * 3 + 1, none⟩ = some (.int .i64 s1) := hc 1 _ (by rw [hf]; rfl)
      have q2 : wr.cell? ⟨b, off + k * 3 + 2, none⟩ = some (.bool s2) := hc 2 _ (by rw [hf]; rfl)
      have hset := srun_set (HRun.out.alloc (.cells #[.int .i64 s0, .int .i64 s1, .bool s2] 43)) ht0 s0 s1 s2
      have ew := IntWalk.i64_in ((k : Int) + 1) (by omega)
      clear hc hf
      go_wp2_with (go_at_call 12; (with_reducible refine hset.mono ?_); rintro e w4 ⟨rfl, hrun4, hc4⟩; have HRun4 := Lib.hid hrun4; clear hrun4 hc4)
      go_roundw
      case rel => exact ⟨k + 1, _, by omega, by go_num, HRun4.out⟩
      case measure => simp [intOf]; omega
    · have hh1 := srun_hops_all HRun.out a2
      clear hk
      go_wp2_with (go_at_call 17; (with_reducible refine hh1.mono ?_); rintro e w4 ⟨q1, H1, rfl, hq1, hr1, hl1, hH1, hb4⟩; have HRun4 := Lib.hid (HRun.out.below' hb4); have HR1 := Lib.hid hr1; have HA1 := Lib.hid hH1; clear hb4 hr1 hH1 hq1)
      have hnear := fun (x y : Nat) (hx : x < n) (hy : y < n) (ha : adj M x y = true) => hops_near HRun4.out.len hn2 HRun4.out.net HA1.out hx hy ha
      have HNear := Lib.hid hnear
      have HL1 := Lib.hid hl1
      clear hnear hl1
      go_loopw [12] (fun i wr => ∃ j : Nat, j ≤ n ∧ i = .int .i64 j ∧ Below w4.heap.size w4 wr) (fun i _ => n - (intOf i).toNat)
      case atStart => exact ⟨0, Nat.zero_le _, rfl, Below.refl _ _⟩
      case round =>
        obtain ⟨j, hj, rfl, hb5⟩ := hrel
        have HB5 := Lib.hid hb5
        clear hb5
        by_cases hjn : j < n
        · have hji : (j : Int) < (n : Int) := by omega
          have ew := IntWalk.i64_in ((j : Int) + 1) (by omega)
          go_wp2
          go_loopw [13] (fun i wr => ∃ m : Nat, m ≤ n ∧ i = .int .i64 m ∧ Below w4.heap.size w4 wr) (fun i _ => n - (intOf i).toNat)
          case atStart => exact ⟨0, Nat.zero_le _, rfl, HB5.out⟩
          case round =>
            obtain ⟨m, hm, rfl, hb6⟩ := hrel
            by_cases hmn : m < n
            · have c1 : wr.cell? ⟨q1, j, none⟩ = some (.int .i64 (H1.getD j 0)) := by
                rw [(HR1.out.below hb6 HR1.out.lt).cell j]
                simp [ints, List.getD, show j < H1.length by rw [HL1.out]; exact hjn]
              have c2 : wr.cell? ⟨q1, m, none⟩ = some (.int .i64 (H1.getD m 0)) := by
                rw [(HR1.out.below hb6 HR1.out.lt).cell m]
                simp [ints, List.getD, show m < H1.length by rw [HL1.out]; exact hmn]
              have hmi : (m : Int) < (n : Int) := by omega
              have em := IntWalk.i64_in ((m : Int) + 1) (by omega)
              have hrun6 := HRun4.out.below' hb6
              have has1 := srun_has hrun6 j m hjn hmn
              have has2 := srun_has hrun6 m j hmn hjn
              have hasq := fun (nq : Nat) => srun_has (hrun6.below' (below_drewN (Below.refl _ _) nq)) j m hjn hmn
              have hs : adj M m j = adj M j m := by
                rcases h1 : adj M j m with _ | _
                · rcases h2 : adj M m j with _ | _
                  · rfl
                  · rw [hrun6.net.sym _ _ h2] at h1
                    cases h1
                · exact hrun6.net.sym _ _ h1
              rw [hs] at has2
              have HB6 := Lib.hid hb6
              clear hb6 hrun6 hs
              rcases hadj : adj M j m with _ | _
              · rw [hadj] at has1 has2 hasq
                clear c1 c2
                go_wp2_with (first
                  | (go_at_call 15; (with_reducible refine has1.mono ?_); rintro e w8 ⟨rfl, hw⟩; subst w8)
                  | (go_at_call 15; (with_reducible refine has2.mono ?_); rintro e w8 ⟨rfl, hw⟩; subst w8))
                go_quiet ((go_at_call 15; refine Calls.quiet_of_same (hasq _)))
                go_wp2
                go_roundw
                case rel => exact ⟨m + 1, by omega, by go_num, below_drewN HB6.out _⟩
                case measure => simp [intOf]; omega
              · rw [hadj] at has1 has2 hasq
                rcases HNear.out j m hjn hmn hadj with ⟨h1, h2⟩ | ⟨d, e, h1, h2, hle1, hle2⟩
                · rw [h1] at c1
                  rw [h2] at c2
                  clear h1 h2 hadj
                  go_wp2_with (first
                    | (go_at_call 15; (with_reducible refine has1.mono ?_); rintro e w8 ⟨rfl, hw⟩; subst w8)
                    | (go_at_call 15; (with_reducible refine has2.mono ?_); rintro e w8 ⟨rfl, hw⟩; subst w8))
                  go_quiet ((go_at_call 15; refine Calls.quiet_of_same (hasq _)))
                  go_wp2
                  go_roundw
                  case rel => exact ⟨m + 1, by omega, by go_num, below_drewN HB6.out _⟩
                  case measure => simp [intOf]; omega
                · rw [h1] at c1
                  rw [h2] at c2
                  have hd := HL1.out
                  obtain ⟨hd64, he64⟩ : (d : Int) < 100 ∧ (e : Int) < 100 := by
                    have := hops_lt HRun4.out.len hn2 HRun4.out.net HA1.out
                    have h3 := this j hjn
                    have h4 := this m hmn
                    rw [h1] at h3
                    rw [h2] at h4
                    omega
                  have t1 : decide ((d : Int) < 0) = false := decide_eq_false (by omega)
                  have t2 : decide ((e : Int) < 0) = false := decide_eq_false (by omega)
                  have t3 := IntWalk.i64_in ((d : Int) + 1) (by omega)
                  have t4 := IntWalk.i64_in ((e : Int) + 1) (by omega)
                  have t5 : decide ((e : Int) + 1 < (d : Int)) = false := decide_eq_false (by omega)
                  have t6 : decide ((d : Int) + 1 < (e : Int)) = false := decide_eq_false (by omega)
                  clear h1 h2 hadj hd
                  go_wp2_with (first
                    | (go_at_call 15; (with_reducible refine has1.mono ?_); rintro e w8 ⟨rfl, hw⟩; subst w8)
                    | (go_at_call 15; (with_reducible refine has2.mono ?_); rintro e w8 ⟨rfl, hw⟩; subst w8))
                  go_quiet ((go_at_call 15; refine Calls.quiet_of_same (hasq _)))
                  go_wp2
                  go_roundw
                  case rel => exact ⟨m + 1, by omega, by go_num, below_drewN HB6.out _⟩
                  case measure => simp [intOf]; omega
            · have HB6 := Lib.hid hb6
              clear hb6
              go_wp2
              go_roundw
              case rel => exact ⟨j + 1, by omega, by go_num, HB6.out⟩
              case measure => simp [intOf]; omega
        · clear hj
          by_cases hf0 : a2 < 0
          · go_wp2
            go_ret
            exact ⟨rfl, HRun4.out.below.trans (HB5.out.mono HRun4.out.below.size)⟩
          · by_cases hf1 : (n : Int) ≤ a2
            · go_wp2
              go_ret
              exact ⟨rfl, HRun4.out.below.trans (HB5.out.mono HRun4.out.below.size)⟩
            · obtain ⟨f, rfl⟩ : ∃ f : Nat, a2 = f := ⟨a2.toNat, by omega⟩
              have hfn : f < n := by omega
              have hself := hops_self HRun4.out.len hn2 hfn HA1.out
              have c1 : wr.cell? ⟨q1, f, none⟩ = some (.int .i64 (H1.getD f 0)) := by
                rw [(HR1.out.below HB5.out HR1.out.lt).cell f]
                simp [ints, List.getD, show f < H1.length by rw [HL1.out]; exact hfn]
              rw [hself] at c1
              have d1 : decide ((f : Int) < 0) = false := decide_eq_false (by omega)
              have d2 : decide ((n : Int) ≤ (f : Int)) = false := decide_eq_false hf1
              have hfi : (f : Int) < (n : Int) := by omega
              clear hself hf0 hf1
              go_wp2
              go_ret
              exact ⟨rfl, HRun4.out.below.trans (HB5.out.mono HRun4.out.below.size)⟩

set_option maxRecDepth 100000 in
theorem lifted (os : Os) (started : os.Started) (H : Type) (enc : TypeId × Value → H) :
    ReturnsInHanded {} Tryd.checked os 5 .any (fun w args => (Rows.linksNearSpec.pre enc Tryd.prog Tryd.f5 [] false w args ∧ laidMetH Tryd.prog laidTab w) ∧ sizedMet enc Tryd.prog Tryd.f5 (OpenSpec.ofChange Rows.linksNearSpec) false w args) (Rows.linksNearSpec.post enc Tryd.prog Tryd.f5 false true false false) := by
  refine returnsInHanded_of_change_and (C := Tryd.checked) (X := fun w _ => laidMetH Tryd.prog laidTab w) (fun _ _ _ hh h => h.of_heap hh) own started (by kernel_rfl) Tryd.func5
    (ChangeSpec.witness_shaped (enc := enc) (C := Tryd.checked) (os := os) (X := fun w _ => laidMetH Tryd.prog laidTab w) false (World.doorLaid Tryd.prog 14 os) #[.int .i64 0, .slice none 0 0, .int .i64 0] 8 rfl (World.shaped_of_RefB (by kernel_rfl) (by kernel_rfl)) (by kernel_rfl) (by kernel_rfl) (by kernel_rfl) (door_met os _)) ?_
  intro W base args ds gs before hval0 hW _ _ hL _
  have hval : ∀ (j : Nat) t v, Tryd.f5.params[j]? = some t → args[j]? = some v → Value.okWide Tryd.prog W .any base t v := hval0
  have hW' := hW
  obtain ⟨p, q, hA0, hV, rfl, hfz, hnd⟩ := hW
  have hA : DataW.TrodAll enc Tryd.prog W 0 (fun _ => true) true Tryd.f5.params.toList args.toList ds p := hA0
  have hAk := hA
  rw [Tryd.params5] at hA hval
  obtain ⟨v0, vs0, d0, ds0, p0, q0, hargs, rfl, hp, h0, r0⟩ := trodAll_cons hA
  obtain ⟨v1, vs1, d1, ds1, p1, q1, rfl, rfl, rfl, h1, r1⟩ := trodAll_cons r0
  obtain ⟨v2, vs2, d2, ds2, p2, q2, rfl, rfl, rfl, h2, r2⟩ := trodAll_cons r1
  obtain ⟨rfl, rfl, rfl⟩ := trodAll_nil r2
  obtain rfl : args = #[v0, v1, v2] := by cases args; simp_all
  obtain ⟨rfl, rfl⟩ := trodVars_none hV
  clear hA0 hval0 hargs
  simp only [List.append_nil] at hW'
  have hend : ∀ W' : World, Below W.heap.size W W' → Rows.linksNearSpec.post enc Tryd.prog Tryd.f5 false true false false W #[v0, v1, v2] (.bool true) W' := fun W' hb =>
    law_post (tb := 4) hW' hAk rfl (by kernel_rfl) (by kernel_rfl) (by kernel_rfl) Tryd.underlying4 rfl rfl rfl hb
  clear hW' hAk hp
  obtain ⟨a0, rfl, rfl, rfl, w0⟩ := open_int Tryd.underlying3 (hval 0 3 v0 rfl rfl) h0
  obtain ⟨A1, n1, c1, f1, rfl, w1⟩ := flats_arg (ks := [.int .i64, .int .i64, .bool]) 9 Tryd.underlying22 (by kernel_rfl) (by kernel_rfl) (by decide) (hval 1 22 v1 rfl rfl) h1
  obtain ⟨a2, rfl, rfl, rfl, w2⟩ := open_int Tryd.underlying3 (hval 2 3 v2 rfl rfl) h2
  refine (walk a0 A1 n1 c1 f1 a2 W w0 w1 w2 (tab_of_laid hL)).mono fun e W' ⟨he, hg⟩ => ?_
  subst he
  exact ⟨_, rfl, hend W' hg⟩

theorem over : Rows.linksNearRow.holds Tryd.pinned (OpenSpec.ofChange Rows.linksNearSpec) :=
  OpenClaim.holds_of_wide 5 Tryd.f5 rfl rfl rfl rfl rfl rfl rfl ⟨rfl, rfl, rfl, rfl, rfl⟩ rfl rfl rfl rfl rfl (by kernel_rfl) Tryd.func5 (by kernel_rfl)
    (of_decide_eq_true (by kernel_rfl)) (by unfold Func.isWrapper; first | (rw [if_pos (by decide +kernel)]; kernel_rfl) | (rw [if_neg (by decide +kernel)]; exact ⟨rfl, rfl⟩))
    (fun os started H enc _ => lifted os started H enc)

/-- THE STATEMENT: the tied card -/
theorem proved : Rows.LinksNearCardSaid :=
  Claim7.holds_tied_plain_at .later [] [.data] true (true, "a8bc6a96dd5ec847424e276576dc8ab9270d404c22ddc1f2b73d5b8e0521090a") false
    over (fun _ h => by cases h) (by kernel_rfl) (fun _ h => by cases h) linksNear_row_tie rfl ⟨rfl, rfl⟩ (by kernel_rfl) rfl
    (fun f fn hf hfn => by
      obtain rfl : f = 5 := Option.some.inj ((show Tryd.prog.funcNamed "angelus/angeluslaw08.LinksNear" = some 5 by kernel_rfl).symm.trans hf) |>.symm
      obtain rfl : fn = Tryd.f5 := (Option.some.inj (Tryd.func5.symm.trans hfn)).symm
      exact ⟨by kernel_rfl, fun j t ht => by
        rw [Tryd.params5] at ht
        have hm : t ∈ [3, 22, 3] := by simpa using Array.mem_of_getElem? ht
        have hall : ([3, 22, 3].all fun u => !Tryd.prog.wantsStandIn u) = true := by kernel_rfl
        exact (show Tryd.prog.wantsStandIn t = false by simpa using List.all_eq_true.1 hall t hm)⟩)
    (by kernel_rfl)
#print axioms proved
end Go.Proofs.YtfekblikiemogaaDoor.linksNear

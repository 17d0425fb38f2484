/-
  Hops and Wide answer what the document says, of all links and sets.
  The walk is the prover's own; the frame of the row's step follows the kit's template.
-/
import Derived.Test.YtfekblikiemogaaDoorRows
import Derived.Test.YtfekblikiemogaaDoorLawKit
import Derived.Test.YtfekblikiemogaaDoorCards
import Derived.Test.YtfekblikiemogaaDoorTie
import Derived.SevenTiedAt
import Derived.Test.YtfekblikiemogaaDoorFlat
import Derived.Test.YtfekblikiemogaaDoorLkQ
import Derived.Test.YtfekblikiemogaaDoorLdE
import Derived.Test.YtfekblikiemogaaDoorLkT
import Derived.Test.YtfekblikiemogaaDoorTurn
import Derived.LoopTactic
import Derived.Deep.QuietTactic
import Derived.BigQuiet
namespace Go.Proofs.YtfekblikiemogaaDoor.linksHops
open Go.ChangeShapes Go.WideShapes Go.ChangeAt Go.RowKit Go.ChangeMaps Go.WideElems
set_option linter.unusedVariables false

theorem cells1 {W : World} {vs : List Value} (h : Fit W [.int .i64, .int .i64, .bool] vs) : ∃ (s0 : Int) (s1 : Int) (s2 : Bool), vs = [.int .i64 s0, .int .i64 s1, .bool s2] ∧ (Lit.int .i64 s0).wf = true ∧ (Lit.int .i64 s1).wf = true := by
  match vs, h.length, h with
  | [y0, y1, y2], _, h =>
    obtain ⟨⟨x0, rfl, h0⟩, ⟨x1, rfl, h1⟩, ⟨x2, rfl⟩, _⟩ := h
    exact ⟨x0, x1, x2, rfl, h0, h1⟩
theorem own : ownKnob Tryd.prog.godebug = none := by kernel_rfl
set_option linter.unusedSimpArgs false in
set_option maxHeartbeats 4000000 in
set_option maxRecDepth 100000 in
theorem walk (a0 : Int) (A1 : Option Addr) (n1 c1 : Nat) (f1 : Nat → List Value) (a2 : Int) (a3 : Int) (w : World) (w0 : (Lit.int .i64 a0).wf = true) (w1 : FlatRow w [.int .i64, .int .i64, .bool] A1 n1 c1 f1) (w2 : (Lit.int .i64 a2).wf = true) (w3 : (Lit.int .u64 a3).wf = true) (hT : Tab w) :
    Calls Tryd.prog 4 #[.int .i64 a0, .slice A1 n1 c1, .int .i64 a2, .int .u64 a3] w fun e w' => e = .returned (.bool true) ∧ Below w.heap.size w w' := by
  obtain ⟨hx0, hx1⟩ := bounds_u64 w3
  obtain ⟨on, rfl⟩ : ∃ on : Nat, a3 = on := ⟨a3.toNat, by omega⟩
  have hon : on < 18446744073709551616 := by omega
  clear hx0 hx1 w3
  have HT := Lib.hid hT
  have ht0 := hT.2
  clear hT
  by_cases hneg : a0 < 1
  · go_enter Tryd.func4, Tryd.ntmps4
    go_wp2_with (first
      | ((go_at_call 9; refine (alive_yes _ HT.out).mono ?_; rintro e w1 ⟨rfl, hb1⟩; have HB1 := Lib.hid hb1; clear hb1))
      | ((go_at_call 10; refine (hnew _).mono ?_; rintro e w2 ⟨rfl, hl2, hb2, hs2⟩; have HL2 := Lib.hid hl2; have HB2 := Lib.hid hb2; clear hl2 hb2))
      | ((refine wpList_built rfl 41 _ rfl #[(0, .int .i64 (n : Int))] (by simp [Act.eval, Act.put]) (hbuild _) ?_))
      | ((refine wpList_boxed rfl 41 _ rfl (.agg Cn) (by simp [Act.eval, Act.put]) (hbox _) ?_)))
    go_ret
    exact ⟨rfl, HB1.out⟩
  by_cases hbig : 12 < a0
  · go_enter Tryd.func4, Tryd.ntmps4
    go_wp2_with (first
      | ((go_at_call 9; refine (alive_yes _ HT.out).mono ?_; rintro e w1 ⟨rfl, hb1⟩; have HB1 := Lib.hid hb1; clear hb1))
      | ((go_at_call 10; refine (hnew _).mono ?_; rintro e w2 ⟨rfl, hl2, hb2, hs2⟩; have HL2 := Lib.hid hl2; have HB2 := Lib.hid hb2; clear hl2 hb2))
      | ((refine wpList_built rfl 41 _ rfl #[(0, .int .i64 (n : Int))] (by simp [Act.eval, Act.put]) (hbuild _) ?_))
      | ((refine wpList_boxed rfl 41 _ rfl (.agg Cn) (by simp [Act.eval, Act.put]) (hbox _) ?_)))
    go_ret
    exact ⟨rfl, HB1.out⟩
  by_cases hlong : 100 < n1
  · go_enter Tryd.func4, Tryd.ntmps4
    go_wp2_with (first
      | ((go_at_call 9; refine (alive_yes _ HT.out).mono ?_; rintro e w1 ⟨rfl, hb1⟩; have HB1 := Lib.hid hb1; clear hb1))
      | ((go_at_call 10; refine (hnew _).mono ?_; rintro e w2 ⟨rfl, hl2, hb2, hs2⟩; have HL2 := Lib.hid hl2; have HB2 := Lib.hid hb2; clear hl2 hb2))
      | ((refine wpList_built rfl 41 _ rfl #[(0, .int .i64 (n : Int))] (by simp [Act.eval, Act.put]) (hbuild _) ?_))
      | ((refine wpList_boxed rfl 41 _ rfl (.agg Cn) (by simp [Act.eval, Act.put]) (hbox _) ?_)))
    go_ret
    exact ⟨rfl, HB1.out⟩
  obtain ⟨n, rfl⟩ : ∃ n : Nat, a0 = n := ⟨a0.toNat, by omega⟩
  have hn1 : 1 ≤ n := by omega
  have hn2 : n ≤ 12 := by omega
  have hnew := fun W => new_any W n hn1 (by omega)
  have d1 : decide ((n : Int) < 1) = false := decide_eq_false (by omega)
  have d2 : decide (12 < (n : Int)) = false := decide_eq_false (by omega)
  have d3 : decide (100 < (n1 : Int)) = false := decide_eq_false (by omega)
  obtain ⟨C, hbuild0, hC0⟩ := build_doc
  have hbuild := hbuild0 (n : Int)
  have hC := hC0 (n : Int)
  obtain ⟨Cn, hCn⟩ : ∃ Cn, C (n : Int) = Cn := ⟨_, rfl⟩
  rw [hCn] at hC
  simp only [hCn] at hbuild
  have hbox := box_doc Cn
  have HC := Lib.hid hC
  clear hbuild0 hC0 hCn hC
  have R := Lib.hid w1
  clear w1 hneg hbig hlong
  go_enter Tryd.func4, Tryd.ntmps4
  go_wp2_with (first
    | ((go_at_call 9; refine (alive_yes _ HT.out).mono ?_; rintro e w1 ⟨rfl, hb1⟩; have HB1 := Lib.hid hb1; clear hb1))
    | ((go_at_call 10; refine (hnew _).mono ?_; rintro e w2 ⟨rfl, hl2, hb2, hs2⟩; have HL2 := Lib.hid hl2; have HB2 := Lib.hid hb2; clear hl2 hb2))
    | ((refine wpList_built rfl 41 _ rfl #[(0, .int .i64 (n : Int))] (by simp [Act.eval, Act.put]) (hbuild _) ?_))
    | ((refine wpList_boxed rfl 41 _ rfl (.agg Cn) (by simp [Act.eval, Act.put]) (hbox _) ?_)))
  obtain ⟨g, hg⟩ : ∃ g, w1.heap.size + 1 = g := ⟨_, rfl⟩
  obtain ⟨r, hr⟩ : ∃ r, w1.heap.size = r := ⟨_, rfl⟩
  have hrun : SRun w n g r (List.replicate n 0) w2 := by
    rw [← hg, ← hr]
    exact SRun.new hn1 (by omega) HT.out HB1.out HL2.out HB2.out
  have hrw : w.heap.size ≤ r := by rw [← hr]; exact HB1.out.size
  simp only [hg]
  obtain ⟨gm, hgm⟩ : ∃ gm, w1.heap.size + 2 = gm := ⟨_, rfl⟩
  have hgm2 : w2.heap.size = gm := hs2.trans hgm
  have hrun2 : BRun w n g r gm (List.replicate n 0) (w2.alloc (.cells Cn 41)) := by rw [← hgm2]; exact BRun.new hrun HC.out
  simp only [hgm]
  have HRun := Lib.hid hrun2
  clear hrun hrun2 HL2 hg hr hgm hgm2 hs2
  go_loopw [41] (fun i wr => ∃ (k : Nat) (M : List Nat), k ≤ n1 ∧ i = .int .i64 k ∧ BRun w n g r gm M wr) (fun i _ => n1 - (intOf i).toNat)
  case atStart => exact ⟨0, _, Nat.zero_le _, rfl, HRun.out⟩
  case round =>
    obtain ⟨k, M, hk, rfl, hrun⟩ := hrel
    clear HRun
    have HRun := Lib.hid hrun
    clear hrun
    by_cases hlt : k < n1
    · have hcap := R.out.cap_le
      have hmx := R.out.max
      unfold maxLen at hmx
      obtain ⟨b, off, rfl, hb', hc⟩ := (R.out.below HRun.out.s.below).at 3 rfl hlt
      obtain ⟨s0, s1, s2, hf, hw1, hw2⟩ := cells1 (R.out.fit k hlt)
      have q0 : wr.cell? ⟨b, off + k * 3, none⟩ = some (.int .i64 s0) := hc 0 _ (by rw [hf]; rfl)
      have q1 : wr.cell? ⟨b, off + k * 3 + 1, none⟩ = some (.int .i64 s1) := hc 1 _ (by rw [hf]; rfl)
      have q2 : wr.cell? ⟨b, off + k * 3 + 2, none⟩ = some (.bool s2) := hc 2 _ (by rw [hf]; rfl)
      have ew := IntWalk.i64_in ((k : Int) + 1) (by omega)
      clear hc hf
      have hV := Holds.new wr 43 #[.int .i64 s0, .int .i64 s1, .bool s2]
      have hset := brun_set (HRun.out.alloc (.cells #[.int .i64 s0, .int .i64 s1, .bool s2] 43)) ht0 s0 s1 s2
      have hrlt := HRun.out.s.lk.rlt
      have HV := Lib.hid hV
      clear hV
      go_wp2_with (first
        | (go_at_call 12; (with_reducible refine hset.mono ?_); rintro e w4 ⟨rfl, hh4, hc4⟩; have hv4 := HV.out.chg hc4 (by omega); have v0 := hv4.cell 0; have v1 := hv4.cell 1; have v2 := hv4.cell 2; have hdset := bhalf_set hh4 ht0; clear hv4 hh4 hc4)
        | (go_at_call 18; (with_reducible refine hdset.mono ?_); rintro e w6 ⟨rfl, hrun6, hc6⟩; have HRun6 := Lib.hid hrun6; clear hrun6 hc6))
      go_roundw
      case rel => exact ⟨k + 1, _, by omega, by go_num, HRun6.out⟩
      case measure => simp [intOf]; omega
    · have hwide := srun_wide HRun.out.s on hon
      clear hk
      go_wp2_with (first
        | (go_at_call 11; (with_reducible refine hwide.mono ?_); rintro e w5 ⟨v, ok, rfl, hw5, hb5⟩; have hr5 := HRun.out.below' hb5; have hdw := brun_dwide hr5 hn1 (by omega) on hon; have HR5 := Lib.hid hr5; have HW5 := Lib.hid hw5; clear hr5 hw5 hb5)
        | (go_at_call 20; (with_reducible refine hdw.mono ?_); rintro e w6 ⟨v2, ok2, rfl, hw6, hb6⟩; obtain ⟨rfl, rfl⟩ := HW5.out.one hw6; have hr6 := HR5.out.below' hb6; have hh := srun_hops hr6.s a2 on hon; have HR6 := Lib.hid hr6; clear hr6 hw6 hb6)
        | (go_at_call 17; (with_reducible refine hh.mono ?_); rintro e w7 ⟨q1, H1, rfl, hq1, hrow1, hl1, hH1, hb7⟩; have hr7 := HR6.out.below' hb7; have hdh := brun_dhops hr7 hn1 (by omega) a2 on hon; have HR7 := Lib.hid hr7; have HRow1 := Lib.hid hrow1; have HH1 := Lib.hid hH1; have HL1 := Lib.hid hl1; clear hr7 hrow1 hH1 hb7 hl1)
        | (go_at_call 22; (with_reducible refine hdh.mono ?_); rintro e w8 ⟨q2, H2, rfl, hq2, hrow2, hl2, hH2, hb8⟩; obtain rfl := HH1.out.one hH2; have hr8 := HR7.out.below' hb8; have HR8 := Lib.hid hr8; have hsame := same_any w8 _ n n _ _ n n _ (Row.of (HRow1.out.below hb8 HRow1.out.lt) HL1.out (by omega)) (Row.of hrow2 hl2 (by omega)); clear hr8 hrow2 hH2 hb8 hl2)
        | (go_at_call 21; (with_reducible refine hsame.mono ?_); rintro e w9 ⟨rfl, hb9⟩; have HB9 := Lib.hid (HR8.out.s.below.trans (hb9.mono HR8.out.s.below.size)); clear hb9))
      go_ret
      exact ⟨ret_bool (by simp), HB9.out⟩

set_option maxRecDepth 100000 in
theorem lifted (os : Os) (started : os.Started) (H : Type) (enc : TypeId × Value → H) :
    ReturnsInHanded {} Tryd.checked os 4 .any (fun w args => (Rows.linksHopsSpec.pre enc Tryd.prog Tryd.f4 [] false w args ∧ laidMetH Tryd.prog laidTab w) ∧ sizedMet enc Tryd.prog Tryd.f4 (OpenSpec.ofChange Rows.linksHopsSpec) false w args) (Rows.linksHopsSpec.post enc Tryd.prog Tryd.f4 false true false false) := by
  refine returnsInHanded_of_change_and (C := Tryd.checked) (X := fun w _ => laidMetH Tryd.prog laidTab w) (fun _ _ _ hh h => h.of_heap hh) own started (by kernel_rfl) Tryd.func4
    (ChangeSpec.witness_shaped (enc := enc) (C := Tryd.checked) (os := os) (X := fun w _ => laidMetH Tryd.prog laidTab w) false (World.doorLaid Tryd.prog 14 os) #[.int .i64 0, .slice none 0 0, .int .i64 0, .int .u64 0] 8 rfl (World.shaped_of_RefB (by kernel_rfl) (by kernel_rfl)) (by kernel_rfl) (by kernel_rfl) (by kernel_rfl) (door_met os _)) ?_
  intro W base args ds gs before hval0 hW _ _ hL _
  have hval : ∀ (j : Nat) t v, Tryd.f4.params[j]? = some t → args[j]? = some v → Value.okWide Tryd.prog W .any base t v := hval0
  have hW' := hW
  obtain ⟨p, q, hA0, hV, rfl, hfz, hnd⟩ := hW
  have hA : DataW.TrodAll enc Tryd.prog W 0 (fun _ => true) true Tryd.f4.params.toList args.toList ds p := hA0
  have hAk := hA
  rw [Tryd.params4] at hA hval
  obtain ⟨v0, vs0, d0, ds0, p0, q0, hargs, rfl, hp, h0, r0⟩ := trodAll_cons hA
  obtain ⟨v1, vs1, d1, ds1, p1, q1, rfl, rfl, rfl, h1, r1⟩ := trodAll_cons r0
  obtain ⟨v2, vs2, d2, ds2, p2, q2, rfl, rfl, rfl, h2, r2⟩ := trodAll_cons r1
  obtain ⟨v3, vs3, d3, ds3, p3, q3, rfl, rfl, rfl, h3, r3⟩ := trodAll_cons r2
  obtain ⟨rfl, rfl, rfl⟩ := trodAll_nil r3
  obtain rfl : args = #[v0, v1, v2, v3] := by cases args; simp_all
  obtain ⟨rfl, rfl⟩ := trodVars_none hV
  clear hA0 hval0 hargs
  simp only [List.append_nil] at hW'
  have hend : ∀ W' : World, Below W.heap.size W W' → Rows.linksHopsSpec.post enc Tryd.prog Tryd.f4 false true false false W #[v0, v1, v2, v3] (.bool true) W' := fun W' hb =>
    law_post (tb := 4) hW' hAk rfl (by kernel_rfl) (by kernel_rfl) (by kernel_rfl) Tryd.underlying4 rfl rfl rfl hb
  clear hW' hAk hp
  obtain ⟨a0, rfl, rfl, rfl, w0⟩ := open_int Tryd.underlying3 (hval 0 3 v0 rfl rfl) h0
  obtain ⟨A1, n1, c1, f1, rfl, w1⟩ := flats_arg (ks := [.int .i64, .int .i64, .bool]) 9 Tryd.underlying22 (by kernel_rfl) (by kernel_rfl) (by decide) (hval 1 22 v1 rfl rfl) h1
  obtain ⟨a2, rfl, rfl, rfl, w2⟩ := open_int Tryd.underlying3 (hval 2 3 v2 rfl rfl) h2
  obtain ⟨a3, rfl, rfl, rfl, w3⟩ := open_int Tryd.underlying30 (hval 3 30 v3 rfl rfl) h3
  refine (walk a0 A1 n1 c1 f1 a2 a3 W w0 w1 w2 w3 (tab_of_laid hL)).mono fun e W' ⟨he, hg⟩ => ?_
  subst he
  exact ⟨_, rfl, hend W' hg⟩

theorem over : Rows.linksHopsRow.holds Tryd.pinned (OpenSpec.ofChange Rows.linksHopsSpec) :=
  OpenClaim.holds_of_wide 4 Tryd.f4 rfl rfl rfl rfl rfl rfl rfl ⟨rfl, rfl, rfl, rfl, rfl⟩ rfl rfl rfl rfl rfl (by kernel_rfl) Tryd.func4 (by kernel_rfl)
    (of_decide_eq_true (by kernel_rfl)) (by unfold Func.isWrapper; first | (rw [if_pos (by decide +kernel)]; kernel_rfl) | (rw [if_neg (by decide +kernel)]; exact ⟨rfl, rfl⟩))
    (fun os started H enc _ => lifted os started H enc)

/-- THE STATEMENT: the tied card -/
theorem proved : Rows.LinksHopsCardSaid :=
  Claim7.holds_tied_plain_at .later [] [.data] true (true, "a8bc6a96dd5ec847424e276576dc8ab9270d404c22ddc1f2b73d5b8e0521090a") false
    over (fun _ h => by cases h) (by kernel_rfl) (fun _ h => by cases h) linksHops_row_tie rfl ⟨rfl, rfl⟩ (by kernel_rfl) rfl
    (fun f fn hf hfn => by
      obtain rfl : f = 4 := Option.some.inj ((show Tryd.prog.funcNamed "angelus/angeluslaw08.LinksHops" = some 4 by kernel_rfl).symm.trans hf) |>.symm
      obtain rfl : fn = Tryd.f4 := (Option.some.inj (Tryd.func4.symm.trans hfn)).symm
      exact ⟨by kernel_rfl, fun j t ht => by
        rw [Tryd.params4] at ht
        have hm : t ∈ [3, 22, 3, 30] := by simpa using Array.mem_of_getElem? ht
        have hall : ([3, 22, 3, 30].all fun u => !Tryd.prog.wantsStandIn u) = true := by kernel_rfl
        exact (show Tryd.prog.wantsStandIn t = false by simpa using List.all_eq_true.1 hall t hm)⟩)
    (by kernel_rfl)
#print axioms proved
end Go.Proofs.YtfekblikiemogaaDoor.linksHops

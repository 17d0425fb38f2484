/-
  Each goes over the bits of a set, rising; it may be left at any time.
  The walk is the prover's own; the frame of the row's step follows the kit's template.
-/
import Derived.Test.YtfekblikiemogaaDoorRows
import Derived.Test.YtfekblikiemogaaDoorLawKit
import Derived.Test.YtfekblikiemogaaDoorCards
import Derived.Test.YtfekblikiemogaaDoorTie
import Derived.SevenTiedAt
import Derived.Test.YtfekblikiemogaaDoorLkL
import Derived.Test.YtfekblikiemogaaDoorLkT
import Derived.Test.YtfekblikiemogaaDoorTurn
import Derived.LoopTactic
namespace Go.Proofs.YtfekblikiemogaaDoor.linksEach
open Go.ChangeShapes Go.WideShapes Go.ChangeAt Go.RowKit Go.ChangeMaps Go.WideElems
set_option linter.unusedVariables false

theorem own : ownKnob Tryd.prog.godebug = none := by kernel_rfl
set_option linter.unusedSimpArgs false in
set_option maxHeartbeats 4000000 in
set_option maxRecDepth 100000 in
theorem walk (a0 : Int) (a1 : Int) (w : World) (w0 : (Lit.int .u64 a0).wf = true) (w1 : (Lit.int .i64 a1).wf = true) (hT : Tab w) :
    Calls Tryd.prog 6 #[.int .u64 a0, .int .i64 a1] w fun e w' => e = .returned (.bool true) ∧ Below w.heap.size w w' := by
  obtain ⟨hx0, hx1⟩ := bounds_u64 w0
  obtain ⟨x, rfl⟩ : ∃ x : Nat, a0 = x := ⟨a0.toNat, by omega⟩
  have hx : x < 18446744073709551616 := by omega
  have hnum := fun (W : World) (hT : Tab W) => numbers_any W x hx hT 64
  have h64 : (bitsOf x).take (max (64 : Int) 0).toNat = bitsOf x := List.take_of_length_le (by have := bits_len x; simp; omega)
  simp only [h64] at hnum
  have hin := fun (W : World) (i : Int) => in_any W x hx i
  have ht0 := hT.2
  have HT := Lib.hid hT
  clear hT h64
  go_enter Tryd.func6, Tryd.ntmps6
  go_wp2_with (first
    | ((go_at_call 9; refine (alive_yes _ HT.out).mono ?_; rintro e w1 ⟨rfl, hb1⟩; have HB1 := Lib.hid hb1; have hnum1 := hnum w1 (HT.out.below hb1 HT.out.2); clear hb1))
    | ((go_at_call 23; refine hnum1.mono ?_; rintro e w2 ⟨A, n, c, rfl, hr2, hnc, hc63, hn64, hb2⟩))
    | ((go_at_call 19; refine hink.mono ?_; rintro e w3 ⟨rfl, hw⟩; subst w3)))
  have hT2 := HT.out.below (HB1.out.trans (hb2.mono HB1.out.size)) HT.out.2
  have HB2 := Lib.hid (HB1.out.trans (hb2.mono HB1.out.size))
  have hlen : n = (bitsOf x).length := by rw [← hr2.1, asInts_len]
  have HR := Lib.hid hr2
  have HT2 := Lib.hid hT2
  have hsz2 := HB2.out.size
  have HLen := Lib.hid hlen
  clear hb2 hr2 hT2 hlen
  obtain ⟨b64, hb64⟩ : ∃ b64, b64 = 64 := ⟨_, rfl⟩
  have HB64 := Lib.hid hb64
  clear hb64
  go_loopw [6, 7] (fun a i wr => ∃ k : Nat, k ≤ 64 ∧ i = .int .i64 k ∧ a = .int .i64 ((bitsTo x k).length : Nat) ∧ Hid (wr = w2)) (fun _ i _ => b64 - (intOf i).toNat)
  case atStart => exact ⟨0, by omega, rfl, rfl, Lib.hid rfl⟩
  case round =>
    obtain ⟨k, hk, rfl, rfl, hw⟩ := hrel
    have hwe := hw.out
    clear hw
    subst wr
    by_cases hlt : k < 64
    · have hink := hin w2 (k : Int)
      rw [inSet_nat hlt] at hink
      have hbl := bitsTo_len x k
      have ew := IntWalk.i64_in ((k : Int) + 1) (by omega)
      rcases hbit : x.testBit k with _ | _
      · rw [hbit] at hink
        have hto := bitsTo_no hbit
        have HTo := Lib.hid hto
        clear hto
        go_wp2_with (first
          | ((go_at_call 9; refine (alive_yes _ HT.out).mono ?_; rintro e w1 ⟨rfl, hb1⟩; have HB1 := Lib.hid hb1; have hnum1 := hnum w1 (HT.out.below hb1 HT.out.2); clear hb1))
          | ((go_at_call 23; refine hnum1.mono ?_; rintro e w2 ⟨A, n, c, rfl, hr2, hnc, hc63, hn64, hb2⟩))
          | ((go_at_call 19; refine hink.mono ?_; rintro e w3 ⟨rfl, hw⟩; subst w3)))
        go_roundw
        case rel => exact ⟨k + 1, by omega, by go_num, by rw [HTo.out], Lib.hid trivial⟩
        case measure => have := HB64.out; simp [intOf]; omega
      · rw [hbit] at hink
        obtain ⟨hat, hval⟩ := bits_at hlt hbit
        have hto := bitsTo_yes hbit
        have hlen := HLen.out
        obtain ⟨b, off, rfl, hbl2, hc⟩ := HR.out.2.2 (by omega)
        have q := hc (bitsTo x k).length (by omega)
        rw [hval] at q
        have HTo := Lib.hid (show (bitsTo x (k + 1)).length = (bitsTo x k).length + 1 by rw [hto]; simp)
        obtain ⟨P, hP⟩ : ∃ P, (bitsTo x k).length = P := ⟨_, rfl⟩
        rw [hP] at q HTo hat hbl ⊢
        have ep := IntWalk.i64_in ((P : Int) + 1) (by omega)
        have hge : decide ((n : Int) ≤ (P : Int)) = false := decide_eq_false (by omega)
        have hlt2 : (P : Int) < (n : Int) := by omega
        have hkk : ((k : Int) != (k : Int)) = false := by simp
        clear hc hval hto hP hlen
        go_wp2_with (first
          | ((go_at_call 9; refine (alive_yes _ HT.out).mono ?_; rintro e w1 ⟨rfl, hb1⟩; have HB1 := Lib.hid hb1; have hnum1 := hnum w1 (HT.out.below hb1 HT.out.2); clear hb1))
          | ((go_at_call 23; refine hnum1.mono ?_; rintro e w2 ⟨A, n, c, rfl, hr2, hnc, hc63, hn64, hb2⟩))
          | ((go_at_call 19; refine hink.mono ?_; rintro e w3 ⟨rfl, hw⟩; subst w3)))
        go_roundw
        case rel => exact ⟨k + 1, by omega, by go_num, by rw [HTo.out]; go_num, Lib.hid trivial⟩
        case measure => have := HB64.out; simp [intOf]; omega
    · have hk64 : k = 64 := by omega
      subst hk64
      have hlen := HLen.out
      rw [bitsTo_all]
      have hne : ((n : Int) != (n : Int)) = false := by simp
      obtain ⟨mx, hmx⟩ : ∃ mx : Nat, (max a1 0).toNat = mx := ⟨_, rfl⟩
      have hmax := fun W => run_max2 a1 0 W
      have hmxi : (if a1 < 0 then (0 : Int) else a1) = (mx : Int) := by rw [← hmx]; split <;> omega
      simp only [hmxi] at hmax
      obtain ⟨kq, hK⟩ : ∃ kq : Nat, (if (n : Int) < (mx : Int) then (n : Int) else (mx : Int)) = (kq : Int) := ⟨min mx n, by split <;> omega⟩
      have hmin := fun W => run_min2 (mx : Int) (n : Int) W
      simp only [hK] at hmin
      have hKm : kq = min mx (bitsOf x).length := by rw [← hlen]; split at hK <;> omega
      have hKn : kq ≤ n := by omega
      have hKc : (kq : Int) ≤ (c : Int) := by omega
      have hnum2 := numbers_any w2.drew x hx (HT2.out.below (below_drewN (Below.refl _ _) 1) HT2.out.2) a1
      rw [hmx, asInts_take _ _ _ hKm] at hnum2
      have HRK : Hid (Row w2.drew A kq ((asInts (bitsOf x)).take kq)) := Lib.hid ((HR.out.take hKn).below (below_drewN (Below.refl _ _) 1))
      have HBd : Hid (Below w.heap.size w w2.drew) := Lib.hid HB2.out.drew
      have hKcn : kq ≤ c := by omega
      have hnE : n = (bitsOf x).length := hlen
      rw [← hnE]
      clear hK hKm hmx hmxi hnE hlen hk hlt
      go_wp2_with (first
        | ((go_at_call 9; refine (alive_yes _ HT.out).mono ?_; rintro e w1 ⟨rfl, hb1⟩; have HB1 := Lib.hid hb1; have hnum1 := hnum w1 (HT.out.below hb1 HT.out.2); clear hb1))
        | ((go_at_call 23; refine hnum1.mono ?_; rintro e w2 ⟨A, n, c, rfl, hr2, hnc, hc63, hn64, hb2⟩))
        | ((go_at_call 19; refine hink.mono ?_; rintro e w3 ⟨rfl, hw⟩; subst w3)))
      refine region_turns (fun (w' : World) => w.heap.size ≤ w'.heap.size) (fun j => decide (8 ≤ j)) (by kernel_rfl) (HBd.out.size) (fun hS => ?_)
      refine Turns.take hS 0 _ rfl (by kernel_rfl) (by kernel_rfl) (by kernel_rfl) (by kernel_rfl) (fun _ _ _ h => h) (by rfl) (fun w' hS' => by (try dsimp only at hS'); go_split_ands; go_simp; (try with_reducible rfl)) ?_
      simp only [Act.put, List.getElem_toArray, List.getElem_cons_succ, List.getElem_cons_zero, List.setIfInBounds_toArray, List.set_cons_zero, List.set_cons_succ]
      refine Turns.take hS 1 _ rfl (by kernel_rfl) (by kernel_rfl) (by kernel_rfl) (by kernel_rfl) (fun _ _ _ h => h) (by rfl) (fun w' hS' => by (try dsimp only at hS'); go_split_ands; go_simp; (try with_reducible rfl)) ?_
      simp only [Act.put, List.getElem_toArray, List.getElem_cons_succ, List.getElem_cons_zero, List.setIfInBounds_toArray, List.set_cons_zero, List.set_cons_succ]
      refine Turns.take hS 3 _ rfl (by kernel_rfl) (by kernel_rfl) (by kernel_rfl) (by kernel_rfl) (fun _ _ _ h => h) (by rfl) (fun w' hS' => by (try dsimp only at hS'); go_split_ands; go_simp; (try with_reducible rfl)) ?_
      simp only [Act.put, List.getElem_toArray, List.getElem_cons_succ, List.getElem_cons_zero, List.setIfInBounds_toArray, List.set_cons_zero, List.set_cons_succ]
      refine Turns.take hS 4 _ rfl (by kernel_rfl) (by kernel_rfl) (by kernel_rfl) (by kernel_rfl) (fun _ _ _ h => h) (by rfl) (fun w' hS' => by (try dsimp only at hS'); go_split_ands; go_simp; (try with_reducible rfl)) ?_
      simp only [Act.put, List.getElem_toArray, List.getElem_cons_succ, List.getElem_cons_zero, List.setIfInBounds_toArray, List.set_cons_zero, List.set_cons_succ]
      refine Turns.take hS 5 _ rfl (by kernel_rfl) (by kernel_rfl) (by kernel_rfl) (by kernel_rfl) (fun _ _ _ h => h) (by rfl) (fun w' hS' => by (try dsimp only at hS'); go_split_ands; go_simp; (try with_reducible rfl)) ?_
      simp only [Act.put, List.getElem_toArray, List.getElem_cons_succ, List.getElem_cons_zero, List.setIfInBounds_toArray, List.set_cons_zero, List.set_cons_succ]
      refine Turns.next 2 rfl (by kernel_rfl) (by rfl) (fun K hK => ?_)
      go_simp
      go_at_call 23
      refine hnum2.mono ?_
      rintro e w5 ⟨A5, n5, c5, rfl, hr5, hnc5, hc65, hn65, hb5⟩
      have hsame := same_any w5 A5 n5 c5 _ A kq c _ hr5 (HRK.out.below hb5)
      have HB5 := Lib.hid (HBd.out.trans (hb5.mono HBd.out.size))
      clear hb5 hr5
      refine hK.out _ _ (show (fun (w' : World) => w.heap.size ≤ w'.heap.size) _ from HB5.out.size) ?_
      clear hK K hS
      have hS := (show (fun (w' : World) => w.heap.size ≤ w'.heap.size) _ from HB5.out.size)
      refine Turns.next 6 rfl (by kernel_rfl) (by rfl) (fun K hK => ?_)
      go_simp
      go_at_call 21
      refine hsame.mono ?_
      rintro e w6 ⟨rfl, hb6⟩
      have HB6 := Lib.hid (HB5.out.trans (hb6.mono HB5.out.size))
      refine hK.out _ _ (show (fun (w' : World) => w.heap.size ≤ w'.heap.size) _ from HB6.out.size) ?_
      clear hK K hS
      have hS := (show (fun (w' : World) => w.heap.size ≤ w'.heap.size) _ from HB6.out.size)
      refine Turns.take hS 7 _ rfl (by kernel_rfl) (by kernel_rfl) (by kernel_rfl) (by kernel_rfl) (fun _ _ _ h => h) (by rfl) (fun w' hS' => by (try dsimp only at hS'); go_split_ands; go_simp; (try with_reducible rfl)) ?_
      simp only [Act.put, List.getElem_toArray, List.getElem_cons_succ, List.getElem_cons_zero, List.setIfInBounds_toArray, List.set_cons_zero, List.set_cons_succ]
      refine Turns.rest (late_done (by kernel_rfl)) ?_
      refine any_tail 8 (by rfl) (by kernel_rfl) ?_
      simp only [List.drop_succ_cons, List.drop_zero]
      clear hS
      go_wp2
      go_ret
      exact ⟨ret_bool (by simp), HB6.out⟩

set_option maxRecDepth 100000 in
theorem lifted (os : Os) (started : os.Started) (H : Type) (enc : TypeId × Value → H) :
    ReturnsInHanded {} Tryd.checked os 6 .any (fun w args => (Rows.linksEachSpec.pre enc Tryd.prog Tryd.f6 [] false w args ∧ laidMetH Tryd.prog laidTab w) ∧ sizedMet enc Tryd.prog Tryd.f6 (OpenSpec.ofChange Rows.linksEachSpec) false w args) (Rows.linksEachSpec.post enc Tryd.prog Tryd.f6 false true false false) := by
  refine returnsInHanded_of_change_and (C := Tryd.checked) (X := fun w _ => laidMetH Tryd.prog laidTab w) (fun _ _ _ hh h => h.of_heap hh) own started (by kernel_rfl) Tryd.func6
    (ChangeSpec.witness_shaped (enc := enc) (C := Tryd.checked) (os := os) (X := fun w _ => laidMetH Tryd.prog laidTab w) false (World.doorLaid Tryd.prog 14 os) #[.int .u64 0, .int .i64 0] 8 rfl (World.shaped_of_RefB (by kernel_rfl) (by kernel_rfl)) (by kernel_rfl) (by kernel_rfl) (by kernel_rfl) (door_met os _)) ?_
  intro W base args ds gs before hval0 hW _ _ hL _
  have hval : ∀ (j : Nat) t v, Tryd.f6.params[j]? = some t → args[j]? = some v → Value.okWide Tryd.prog W .any base t v := hval0
  have hW' := hW
  obtain ⟨p, q, hA0, hV, rfl, hfz, hnd⟩ := hW
  have hA : DataW.TrodAll enc Tryd.prog W 0 (fun _ => true) true Tryd.f6.params.toList args.toList ds p := hA0
  have hAk := hA
  rw [Tryd.params6] at hA hval
  obtain ⟨v0, vs0, d0, ds0, p0, q0, hargs, rfl, hp, h0, r0⟩ := trodAll_cons hA
  obtain ⟨v1, vs1, d1, ds1, p1, q1, rfl, rfl, rfl, h1, r1⟩ := trodAll_cons r0
  obtain ⟨rfl, rfl, rfl⟩ := trodAll_nil r1
  obtain rfl : args = #[v0, v1] := by cases args; simp_all
  obtain ⟨rfl, rfl⟩ := trodVars_none hV
  clear hA0 hval0 hargs
  simp only [List.append_nil] at hW'
  have hend : ∀ W' : World, Below W.heap.size W W' → Rows.linksEachSpec.post enc Tryd.prog Tryd.f6 false true false false W #[v0, v1] (.bool true) W' := fun W' hb =>
    law_post (tb := 4) hW' hAk rfl (by kernel_rfl) (by kernel_rfl) (by kernel_rfl) Tryd.underlying4 rfl rfl rfl hb
  clear hW' hAk hp
  obtain ⟨a0, rfl, rfl, rfl, w0⟩ := open_int Tryd.underlying30 (hval 0 30 v0 rfl rfl) h0
  obtain ⟨a1, rfl, rfl, rfl, w1⟩ := open_int Tryd.underlying3 (hval 1 3 v1 rfl rfl) h1
  refine (walk a0 a1 W w0 w1 (tab_of_laid hL)).mono fun e W' ⟨he, hg⟩ => ?_
  subst he
  exact ⟨_, rfl, hend W' hg⟩

theorem over : Rows.linksEachRow.holds Tryd.pinned (OpenSpec.ofChange Rows.linksEachSpec) :=
  OpenClaim.holds_of_wide 6 Tryd.f6 rfl rfl rfl rfl rfl rfl rfl ⟨rfl, rfl, rfl, rfl, rfl⟩ rfl rfl rfl rfl rfl (by kernel_rfl) Tryd.func6 (by kernel_rfl)
    (of_decide_eq_true (by kernel_rfl)) (by unfold Func.isWrapper; first | (rw [if_pos (by decide +kernel)]; kernel_rfl) | (rw [if_neg (by decide +kernel)]; exact ⟨rfl, rfl⟩))
    (fun os started H enc _ => lifted os started H enc)

/-- THE STATEMENT: the tied card -/
theorem proved : Rows.LinksEachCardSaid :=
  Claim7.holds_tied_plain_at .later [] [.data] true (true, "a8bc6a96dd5ec847424e276576dc8ab9270d404c22ddc1f2b73d5b8e0521090a") false
    over (fun _ h => by cases h) (by kernel_rfl) (fun _ h => by cases h) linksEach_row_tie rfl ⟨rfl, rfl⟩ (by kernel_rfl) rfl
    (fun f fn hf hfn => by
      obtain rfl : f = 6 := Option.some.inj ((show Tryd.prog.funcNamed "angelus/angeluslaw08.LinksEach" = some 6 by kernel_rfl).symm.trans hf) |>.symm
      obtain rfl : fn = Tryd.f6 := (Option.some.inj (Tryd.func6.symm.trans hfn)).symm
      exact ⟨by kernel_rfl, fun j t ht => by
        rw [Tryd.params6] at ht
        have hm : t ∈ [30, 3] := by simpa using Array.mem_of_getElem? ht
        have hall : ([30, 3].all fun u => !Tryd.prog.wantsStandIn u) = true := by kernel_rfl
        exact (show Tryd.prog.wantsStandIn t = false by simpa using List.all_eq_true.1 hall t hm)⟩)
    (by kernel_rfl)
#print axioms proved
end Go.Proofs.YtfekblikiemogaaDoor.linksEach

/-
  Package civil: Parse answers the date whose text it is, of any text, or that there is none, and a date that it answers has just this text: the law answers true for every string. Condition: the library's tables lie as the program's text lays them (the card ties them).
  The walk is the prover's own; the frame of the row's step follows the kit's template.
-/
import Derived.Test.YtfidmbpbgjgaiaaDoorRows
import Derived.Test.YtfidmbpbgjgaiaaDoorLawKit
import Derived.Test.YtfidmbpbgjgaiaaDoorCards
import Derived.Test.YtfidmbpbgjgaiaaDoorTie
import Derived.SevenTiedAt
import Derived.Test.YtfidmbpbgjgaiaaDoorCvY
namespace Go.Proofs.YtfidmbpbgjgaiaaDoor.civilReads
open Go.ChangeShapes Go.WideShapes Go.ChangeAt Go.RowKit Go.ChangeMaps Go.WideElems
set_option linter.unusedVariables false

theorem own : ownKnob Tryd.prog.godebug = none := by kernel_rfl
set_option maxHeartbeats 1000000 in
theorem walk (a0 : ByteArray) (w : World) (w0 : a0.size ≤ maxLen) (hT : Tab w) :
    Calls Tryd.prog 4 #[.string a0] w fun e w' => e = .returned (.bool true) ∧ Below w.heap.size w w' := by
  have HT := Lib.hid hT
  clear hT
  by_cases h1 : 1000 < a0.size
  · have d1 : 1000 < (a0.size : Int) := by omega
    go_enter Tryd.func4, Tryd.ntmps4
    go_wp2_with (first
      | (go_at_call 8; refine (alive_yes _ HT.out).mono ?_; rintro e wx ⟨rfl, hb⟩)
      | (go_at_call 16; refine (k1 _).mono ?_; rintro e w2 ⟨rfl, hb2⟩; have HA := Lib.hid (mk1 w2); replace hb := hb.trans (hb2.mono hb.size); clear hb2)
      | (go_at_call 17; refine (k2 _).mono ?_; rintro e w3 ⟨rfl, hb3⟩; have HB := Lib.hid (mk2 w3); replace HA := Lib.hid ((HA.out.next hb3).next (mk2 w3).below); obtain ⟨c0, c1, c2, _⟩ := HA.out.cells3; obtain ⟨d0, d1', d2, _⟩ := HB.out.cells3; replace hb := hb.trans (HA.out.below.mono hb.size); clear hb3)
      | (go_at_call 12; refine (k3 _ (HT.out.below hb)).mono ?_; rintro e w4 ⟨rfl, hb4⟩; replace hb := hb.trans (hb4.mono hb.size); clear hb4))
    go_ret
    exact ⟨rfl, hb⟩
  have d1 : decide (1000 < (a0.size : Int)) = false := decide_eq_false (by omega)
  by_cases hd : ∃ y m d, IsDate a0 y m d
  · obtain ⟨y, m, d, hd⟩ := hd
    have mk1 := fun W => Box.start W 23 #[.int .i64 y, .int .i64 m, .int .i64 d]
    have mk2 := fun W => Box.start W 25 #[.int .i64 y, .int .i64 m, .int .i64 d]
    have k1 := fun W => parse_yes a0 y m d W hd
    have k2 := fun W => rparse_yes a0 y m d W hd
    have k3 := fun W hW => text_yes y m d W hd.can hW
    rw [is_text hd] at k3
    have hbb : (a0.toList == a0.toList) = true := beq_self_eq_true _
    clear hd h1
    go_enter Tryd.func4, Tryd.ntmps4
    go_wp2_with (first
      | (go_at_call 8; refine (alive_yes _ HT.out).mono ?_; rintro e wx ⟨rfl, hb⟩)
      | (go_at_call 16; refine (k1 _).mono ?_; rintro e w2 ⟨rfl, hb2⟩; have HA := Lib.hid (mk1 w2); replace hb := hb.trans (hb2.mono hb.size); clear hb2)
      | (go_at_call 17; refine (k2 _).mono ?_; rintro e w3 ⟨rfl, hb3⟩; have HB := Lib.hid (mk2 w3); replace HA := Lib.hid ((HA.out.next hb3).next (mk2 w3).below); obtain ⟨c0, c1, c2, _⟩ := HA.out.cells3; obtain ⟨d0, d1', d2, _⟩ := HB.out.cells3; replace hb := hb.trans (HA.out.below.mono hb.size); clear hb3)
      | (go_at_call 12; refine (k3 _ (HT.out.below hb)).mono ?_; rintro e w4 ⟨rfl, hb4⟩; replace hb := hb.trans (hb4.mono hb.size); clear hb4))
    go_ret
    exact ⟨rfl, hb⟩
  · have mk1 := fun W => Box.start W 23 #[.int .i64 0, .int .i64 0, .int .i64 0]
    have mk2 := fun W => Box.start W 25 #[.int .i64 0, .int .i64 0, .int .i64 0]
    have k1 := fun W => parse_no a0 W w0 hd
    have k2 := fun W => rparse_no a0 W w0 hd
    clear hd h1
    go_enter Tryd.func4, Tryd.ntmps4
    go_wp2_with (first
      | (go_at_call 8; refine (alive_yes _ HT.out).mono ?_; rintro e wx ⟨rfl, hb⟩)
      | (go_at_call 16; refine (k1 _).mono ?_; rintro e w2 ⟨rfl, hb2⟩; have HA := Lib.hid (mk1 w2); replace hb := hb.trans (hb2.mono hb.size); clear hb2)
      | (go_at_call 17; refine (k2 _).mono ?_; rintro e w3 ⟨rfl, hb3⟩; have HB := Lib.hid (mk2 w3); replace HA := Lib.hid ((HA.out.next hb3).next (mk2 w3).below); obtain ⟨c0, c1, c2, _⟩ := HA.out.cells3; obtain ⟨d0, d1', d2, _⟩ := HB.out.cells3; replace hb := hb.trans (HA.out.below.mono hb.size); clear hb3)
      | (go_at_call 12; refine (k3 _ (HT.out.below hb)).mono ?_; rintro e w4 ⟨rfl, hb4⟩; replace hb := hb.trans (hb4.mono hb.size); clear hb4))
    go_ret
    exact ⟨rfl, hb⟩

set_option maxRecDepth 100000 in
theorem lifted (os : Os) (started : os.Started) (H : Type) (enc : TypeId × Value → H) :
    ReturnsInHanded {} Tryd.checked os 4 .any (fun w args => (Rows.civilReadsSpec.pre enc Tryd.prog Tryd.f4 [] false w args ∧ laidMetH Tryd.prog laidTab w) ∧ sizedMet enc Tryd.prog Tryd.f4 (OpenSpec.ofChange Rows.civilReadsSpec) false w args) (Rows.civilReadsSpec.post enc Tryd.prog Tryd.f4 false true false false) := by
  refine returnsInHanded_of_change_and (C := Tryd.checked) (X := fun w _ => laidMetH Tryd.prog laidTab w) (fun _ _ _ hh h => h.of_heap hh) own started (by kernel_rfl) Tryd.func4
    (ChangeSpec.witness_shaped (enc := enc) (C := Tryd.checked) (os := os) (X := fun w _ => laidMetH Tryd.prog laidTab w) false (World.doorLaid Tryd.prog 14 os) #[.string ⟨#[]⟩] 8 rfl (World.shaped_of_RefB (by kernel_rfl) (by kernel_rfl)) (by kernel_rfl) (by kernel_rfl) (by kernel_rfl) (door_met os _)) ?_
  intro W base args ds gs before hval0 hW _ _ hL _
  have hval : ∀ (j : Nat) t v, Tryd.f4.params[j]? = some t → args[j]? = some v → Value.okWide Tryd.prog W .any base t v := hval0
  have hW' := hW
  obtain ⟨p, q, hA0, hV, rfl, hfz, hnd⟩ := hW
  have hA : DataW.TrodAll enc Tryd.prog W 0 (fun _ => true) true Tryd.f4.params.toList args.toList ds p := hA0
  have hAk := hA
  rw [Tryd.params4] at hA hval
  obtain ⟨v0, vs0, d0, ds0, p0, q0, hargs, rfl, hp, h0, r0⟩ := trodAll_cons hA
  obtain ⟨rfl, rfl, rfl⟩ := trodAll_nil r0
  obtain rfl : args = #[v0] := by cases args; simp_all
  obtain ⟨rfl, rfl⟩ := trodVars_none hV
  clear hA0 hval0 hargs
  simp only [List.append_nil] at hW'
  have hend : ∀ W' : World, Below W.heap.size W W' → Rows.civilReadsSpec.post enc Tryd.prog Tryd.f4 false true false false W #[v0] (.bool true) W' := fun W' hb =>
    law_post (tb := 4) hW' hAk rfl (by kernel_rfl) (by kernel_rfl) (by kernel_rfl) Tryd.underlying4 rfl rfl rfl hb
  clear hW' hAk hp
  obtain ⟨a0, rfl, rfl, rfl, w0⟩ := open_string Tryd.underlying9 (hval 0 9 v0 rfl rfl) h0
  refine (walk a0 W w0 (tab_of_laid hL)).mono fun e W' ⟨he, hg⟩ => ?_
  subst he
  exact ⟨_, rfl, hend W' hg⟩

theorem over : Rows.civilReadsRow.holds Tryd.pinned (OpenSpec.ofChange Rows.civilReadsSpec) :=
  OpenClaim.holds_of_wide 4 Tryd.f4 rfl rfl rfl rfl rfl rfl rfl ⟨rfl, rfl, rfl, rfl, rfl⟩ rfl rfl rfl rfl rfl (by kernel_rfl) Tryd.func4 (by kernel_rfl)
    (of_decide_eq_true (by kernel_rfl)) (by unfold Func.isWrapper; first | (rw [if_pos (by decide +kernel)]; kernel_rfl) | (rw [if_neg (by decide +kernel)]; exact ⟨rfl, rfl⟩))
    (fun os started H enc _ => lifted os started H enc)

/-- THE STATEMENT: the tied card -/
theorem proved : Rows.CivilReadsCardSaid :=
  Claim7.holds_tied_plain_at .later [] [.data, .data, .data] true (true, "1eb08ae58e5a573565d0be32814ac72911309f6115d4ae61345bb52bf53f26a3") false
    over (fun _ h => by cases h) (by kernel_rfl) (fun _ h => by cases h) civilReads_row_tie rfl ⟨rfl, rfl⟩ (by kernel_rfl) rfl
    (fun f fn hf hfn => by
      obtain rfl : f = 4 := Option.some.inj ((show Tryd.prog.funcNamed "angelus/angeluslaw20.CivilReads" = some 4 by kernel_rfl).symm.trans hf) |>.symm
      obtain rfl : fn = Tryd.f4 := (Option.some.inj (Tryd.func4.symm.trans hfn)).symm
      exact ⟨by kernel_rfl, fun j t ht => by
        rw [Tryd.params4] at ht
        have hm : t ∈ [9] := by simpa using Array.mem_of_getElem? ht
        have hall : ([9].all fun u => !Tryd.prog.wantsStandIn u) = true := by kernel_rfl
        exact (show Tryd.prog.wantsStandIn t = false by simpa using List.all_eq_true.1 hall t hm)⟩)
    (by kernel_rfl)
#print axioms proved
end Go.Proofs.YtfidmbpbgjgaiaaDoor.civilReads

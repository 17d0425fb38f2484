/-
  In every script of calls each answer, and all that there are, are the document's; what can't be is refused; a nil row answers as the document says: the law answers true, whatever the input.
  The walk is the prover's own; the frame of the row's step follows the kit's template.
-/
import Derived.Test.YtcbfpejlbbgdjaaRows
import Derived.Test.YtcbfpejlbbgdjaaLawKit
import Derived.Test.YtcbfpejlbbgdjaaFlat
import Derived.Test.YtcbfpejlbbgdjaaRgG
import Derived.LoopTactic
import Derived.Deep.CutBlock
namespace Go.Proofs.Ytcbfpejlbbgdjaa.ringDoes
open Go.ChangeShapes Go.WideShapes Go.ChangeAt Go.RowKit Go.ChangeMaps Go.WideElems
set_option linter.unusedVariables false

theorem cells1 {W : World} {vs : List Value} (h : Fit W [.int .i64, .int .i64] vs) : ∃ (s0 : Int) (s1 : Int), vs = [.int .i64 s0, .int .i64 s1] ∧ (Lit.int .i64 s0).wf = true ∧ (Lit.int .i64 s1).wf = true := by
  match vs, h.length, h with
  | [y0, y1], _, h =>
    obtain ⟨⟨x0, rfl, h0⟩, ⟨x1, rfl, h1⟩, _⟩ := h
    exact ⟨x0, x1, rfl, h0, h1⟩
theorem own : ownKnob Try.prog.godebug = none := by kernel_rfl
set_option linter.unusedSimpArgs false in
set_option maxHeartbeats 4000000 in
set_option maxRecDepth 100000 in
theorem walk (a0 : Int) (A1 : Option Addr) (n1 c1 : Nat) (f1 : Nat → List Value) (a2 : Int) (w : World) (w0 : (Lit.int .i64 a0).wf = true) (w1 : FlatRow w [.int .i64, .int .i64] A1 n1 c1 f1) (w2 : (Lit.int .i64 a2).wf = true) :
    Calls Try.prog 3 #[.int .i64 a0, .slice A1 n1 c1, .int .i64 a2] w fun e w' => e = .returned (.bool true) ∧ Below w.heap.size w w' := by
  by_cases h200 : 200 < n1
  · have d3 : decide ((200 : Int) < (n1 : Int)) = true := decide_eq_true (by omega)
    go_enter Try.func3, Try.ntmps3
    go_wp2_with (go_at_call 7; refine (alive_yes _).mono ?_; rintro e w1 ⟨rfl, hb1⟩)
    go_ret
    exact ⟨rfl, hb1⟩
  have d3 : decide ((200 : Int) < (n1 : Int)) = false := decide_eq_false (by omega)
  by_cases hbad : a0 < 1 ∨ 64 < a0
  · have hnew := fun W => RI.new_bad W a0 hbad
    have hs2 : decide (a0 < 1) = true ∨ (decide (a0 < 1) = false ∧ decide (64 < a0) = true) := by
      rcases hbad with h | h
      · exact .inl (decide_eq_true h)
      · exact .inr ⟨decide_eq_false (by omega), decide_eq_true h⟩
    clear hbad
    rcases hs2 with d1 | ⟨d1, d2⟩
    all_goals
      go_enter Try.func3, Try.ntmps3
      go_wp2_with (first
        | ((go_at_call 7; refine (alive_yes _).mono ?_; rintro e w1 ⟨rfl, hb1⟩))
        | ((go_at_call 8; refine (hnew _).mono ?_; rintro e w2 ⟨rfl, rfl⟩))
        | ((go_at_call 9; refine (RI.clear_nil _).mono ?_; rintro e w' ⟨rfl, rfl⟩))
        | ((go_at_call 10; refine (RI.pop_nil _).mono ?_; rintro e w' ⟨rfl, rfl⟩))
        | ((go_at_call 11; refine (RI.push_nil _ _).mono ?_; rintro e w' ⟨rfl, rfl⟩))
        | ((go_at_call 12; refine (RI.len_nil _).mono ?_; rintro e w' ⟨rfl, rfl⟩))
        | ((go_at_call 13; refine (same_nil _).mono ?_; rintro e w9 ⟨rfl, hb9⟩)))
      go_ret
      exact ⟨rfl, hb1.trans (hb9.mono hb1.size)⟩
  have d1 : decide (a0 < 1) = false := decide_eq_false (by omega)
  have d2 : decide (64 < a0) = false := decide_eq_false (by omega)
  obtain ⟨room, rfl⟩ : ∃ room : Nat, a0 = room := ⟨a0.toNat, by omega⟩
  have hnew := fun W => RI.new_any W room (by omega) (by omega)
  have R := Lib.hid w1
  have hcap := w1.cap_le
  have hmx := w1.max
  unfold maxLen at hmx
  clear w0 w1
  go_enter Try.func3, Try.ntmps3
  go_wp2_with (first
    | (go_at_call 7; refine (alive_yes _).mono ?_; rintro e w1 ⟨rfl, hb1⟩)
    | (go_at_call 8; refine (hnew _).mono ?_; rintro e w2 ⟨rfl, hr2, hb2, hs2⟩)
    | (go_at_call 9; refine (RI.clear_nil _).mono ?_; rintro e w' ⟨rfl, rfl⟩)
    | (go_at_call 10; refine (RI.pop_nil _).mono ?_; rintro e w' ⟨rfl, rfl⟩)
    | (go_at_call 11; refine (RI.push_nil _ _).mono ?_; rintro e w' ⟨rfl, rfl⟩)
    | (go_at_call 12; refine (RI.len_nil _).mono ?_; rintro e w' ⟨rfl, rfl⟩)
    | (go_at_call 13; refine (same_nil _).mono ?_; rintro e w9 ⟨rfl, hb9⟩))
  obtain ⟨z, hz⟩ : ∃ z, w1.heap.size = z := ⟨_, rfl⟩
  rw [hz] at hr2 hs2
  have htied := tied_new hr2 (hb1.trans (hb2.mono hb1.size)) (by rw [← hz]; exact hb1.size) hb9 (by omega)
  simp only [hz]
  obtain ⟨gd, hgd⟩ : ∃ gd, w9.heap.size = gd := ⟨_, rfl⟩
  rw [hgd] at htied
  simp only [hgd]
  have HT0 := Lib.hid htied
  clear hb1 hb2 hb9 hr2 hs2 hz hgd htied hnew
  go_loopw [69] (fun i wr => ∃ (k : Nat) (L : List Int), k ≤ n1 ∧ i = .int .i64 (k : Int) ∧ Tied w z gd room L L wr) (fun i _ => n1 - (intOf i).toNat)
  case atStart => exact ⟨0, [], Nat.zero_le _, rfl, HT0.out⟩
  case round =>
    obtain ⟨k, L, hk, rfl, hT⟩ := hrel
    have HT := Lib.hid hT
    clear HT0 hT
    by_cases hlt : k < n1
    · obtain ⟨b, off, rfl, hb', hc⟩ := (R.out.below HT.out.below).at 2 rfl hlt
      obtain ⟨s0, s1, hf, hw0, hw1⟩ := cells1 (R.out.fit k hlt)
      have q0 : wr.cell? ⟨b, off + k * 2, none⟩ = some (.int .i64 s0) := hc 0 _ (by rw [hf]; rfl)
      have q1 : wr.cell? ⟨b, off + k * 2 + 1, none⟩ = some (.int .i64 s1) := hc 1 _ (by rw [hf]; rfl)
      have ew := IntWalk.i64_in ((k : Int) + 1) (by omega)
      have HT1 := Lib.hid (HT.out.onto (below_alloc wr (.cells #[.int .i64 s0, .int .i64 s1] 38)))
      have HO := Lib.hid (Holds.new wr 38 #[.int .i64 s0, .int .i64 s1])
      have hq := HT.out.size
      have hap := HT.out.apart
      have h64 : L.length ≤ 64 := Nat.le_trans HT.out.ring.len HT.out.ring.fits.2
      have HW := Lib.hid hw1
      clear hc hf HT hw0 hw1
      by_cases hs : s0 = 0
      · by_cases hlr : L.length < room
        · have hst : s0 = 0 := hs
          subst hst
          go_upto_region 20 with fail
          have hbd : Below (wr.alloc (.cells #[.int .i64 0, .int .i64 s1] 38)).heap.size (wr.alloc (.cells #[.int .i64 0, .int .i64 s1] 38)) (wr.alloc (.cells #[.int .i64 0, .int .i64 s1] 38)).drew := below_drewN (Below.refl _ _) 1
          have HT2 := Lib.hid (HT1.out.onto hbd)
          have HO2 := Lib.hid (HO.out.below hbd HO.out.lt)
          obtain ⟨cq, hcq⟩ : ∃ cq, wr.heap.size = cq := ⟨_, rfl⟩
          have hp := RI.push_any _ _ _ _ _ _ s1 HT2.out.ring hlr
          simp only [hcq] at HO2 hq ⊢
          have ho2 := HO2.out.cell 1
          clear hcq HO HT1 hbd
          refine region_turns (fun (w' : World) => w'.cell? ⟨cq, 1, none⟩ = some (.int .i64 s1)) (fun j => decide (9 ≤ j)) (by kernel_rfl) (ho2) (fun hS => ?_)
          refine Turns.take hS 0 _ rfl (by kernel_rfl) (by kernel_rfl) (by kernel_rfl) (by kernel_rfl) (fun _ _ _ h => h) (by rfl) (fun w' hS' => by (try dsimp only at hS'); go_split_ands; go_simp; (try with_reducible rfl)) ?_
          simp only [Act.put, List.getElem_toArray, List.getElem_cons_succ, List.getElem_cons_zero, List.setIfInBounds_toArray, List.set_cons_zero, List.set_cons_succ]
          refine Turns.take hS 1 _ rfl (by kernel_rfl) (by kernel_rfl) (by kernel_rfl) (by kernel_rfl) (fun _ _ _ h => h) (by rfl) (fun w' hS' => by (try dsimp only at hS'); go_split_ands; go_simp; (try with_reducible rfl)) ?_
          simp only [Act.put, List.getElem_toArray, List.getElem_cons_succ, List.getElem_cons_zero, List.setIfInBounds_toArray, List.set_cons_zero, List.set_cons_succ]
          refine Turns.take hS 2 _ rfl (by kernel_rfl) (by kernel_rfl) (by kernel_rfl) (by kernel_rfl) (fun _ _ _ h => h) (by rfl) (fun w' hS' => by (try dsimp only at hS'); go_split_ands; go_simp; (try with_reducible rfl)) ?_
          simp only [Act.put, List.getElem_toArray, List.getElem_cons_succ, List.getElem_cons_zero, List.setIfInBounds_toArray, List.set_cons_zero, List.set_cons_succ]
          refine Turns.take hS 4 _ rfl (by kernel_rfl) (by kernel_rfl) (by kernel_rfl) (by kernel_rfl) (fun _ _ _ h => h) (by rfl) (fun w' hS' => by (try dsimp only at hS'); go_split_ands; go_simp; (try with_reducible rfl)) ?_
          simp only [Act.put, List.getElem_toArray, List.getElem_cons_succ, List.getElem_cons_zero, List.setIfInBounds_toArray, List.set_cons_zero, List.set_cons_succ]
          refine Turns.take hS 5 _ rfl (by kernel_rfl) (by kernel_rfl) (by kernel_rfl) (by kernel_rfl) (fun _ _ _ h => h) (by rfl) (fun w' hS' => by (try dsimp only at hS'); go_split_ands; go_simp; (try with_reducible rfl)) ?_
          simp only [Act.put, List.getElem_toArray, List.getElem_cons_succ, List.getElem_cons_zero, List.setIfInBounds_toArray, List.set_cons_zero, List.set_cons_succ]
          refine Turns.take hS 6 _ rfl (by kernel_rfl) (by kernel_rfl) (by kernel_rfl) (by kernel_rfl) (fun _ _ _ h => h) (by rfl) (fun w' hS' => by (try dsimp only at hS'); go_split_ands; go_simp; (try with_reducible rfl)) ?_
          simp only [Act.put, List.getElem_toArray, List.getElem_cons_succ, List.getElem_cons_zero, List.setIfInBounds_toArray, List.set_cons_zero, List.set_cons_succ]
          refine Turns.next 3 rfl (by kernel_rfl) (by rfl) (fun K hK => ?_)
          go_simp
          refine hp.mono ?_
          rintro e w5 ⟨rfl, hr5, hc5⟩
          have HT5 := Lib.hid (HT2.out.stepR hr5 hc5)
          have HO5 := Lib.hid (HO2.out.chg hc5 (by unfold RI.part; omega))
          have hdp := RI.dpush_any w5 (gd + 1) gd room L s1 HT5.out.doc (by omega) h64 HW.out (Nat.lt_succ_self _) HT5.out.size
          clear hr5 hc5
          refine hK.out _ _ (show (fun (w' : World) => w'.cell? ⟨cq, 1, none⟩ = some (.int .i64 s1)) _ from HO5.out.cell 1) ?_
          clear hK K hS
          have hS := (show (fun (w' : World) => w'.cell? ⟨cq, 1, none⟩ = some (.int .i64 s1)) _ from HO5.out.cell 1)
          refine Turns.next 7 rfl (by kernel_rfl) (by rfl) (fun K hK => ?_)
          go_simp
          refine hdp.mono ?_
          rintro e w4 ⟨rfl, hd4, hc4⟩
          have HT4 := Lib.hid (HT5.out.stepD hd4 hc4)
          have HO4 := Lib.hid (HO5.out.chg hc4 (by omega))
          clear hd4 hc4
          refine hK.out _ _ (show (fun (w' : World) => w'.cell? ⟨cq, 1, none⟩ = some (.int .i64 s1)) _ from HO4.out.cell 1) ?_
          clear hK K hS
          have hS := (show (fun (w' : World) => w'.cell? ⟨cq, 1, none⟩ = some (.int .i64 s1)) _ from HO4.out.cell 1)
          refine Turns.take hS 8 _ rfl (by kernel_rfl) (by kernel_rfl) (by kernel_rfl) (by kernel_rfl) (fun _ _ _ h => h) (by rfl) (fun w' hS' => by (try dsimp only at hS'); go_split_ands; go_simp; (try with_reducible rfl)) ?_
          simp only [Act.put, List.getElem_toArray, List.getElem_cons_succ, List.getElem_cons_zero, List.setIfInBounds_toArray, List.set_cons_zero, List.set_cons_succ]
          refine Turns.rest (late_done (by kernel_rfl)) ?_
          refine any_tail 9 (by rfl) (by kernel_rfl) ?_
          simp only [List.drop_succ_cons, List.drop_zero]
          clear hS
          clear HT5 HT2 HO5 HO2 HO4 hp ho2
          obtain ⟨L4, hL4⟩ : ∃ L4, L4 = L ++ [s1] := ⟨_, rfl⟩
          rw [← hL4] at HT4
          clear hL4
          go_upto_region 30 with fail
          have hbd : Below w4.heap.size w4 w4.drew := below_drewN (Below.refl _ _) 1
          obtain ⟨A4, c4, hd4, hr4⟩ := HT4.out.doc
          have hl64 : L4.length ≤ 64 := Nat.le_trans HT4.out.ring.len HT4.out.ring.fits.2
          have hlen4 := RI.len_any w4.drew _ _ _ _ L4 (HT4.out.ring.below hbd)
          have hsame := RI.same_any w4.drew (some ⟨z + 1, 0, none⟩) L4 A4 c4 hl64 (fun W hW => RI.list_any W _ _ _ _ L4 ((HT4.out.ring.below hbd).below hW)) (hr4.row.below hbd)
          have HD4 := Lib.hid (hd4.below hbd hd4.lt)
          have hc4 : w4.drew.cell? ⟨gd, 1, none⟩ = some (.slice A4 L4.length c4) := HD4.out.cell 1
          obtain ⟨l, hl⟩ : ∃ l, L4.length = l := ⟨_, rfl⟩
          rw [hl] at hlen4 hsame hc4 hl64 HD4
          have dne : ((l : Int) != (l : Int)) = false := by simp
          have HT5 := Lib.hid (HT4.out.onto hbd)
          clear hd4 hr4 hl
          refine region_turns (fun (w' : World) => w'.cell? ⟨gd, 1, none⟩ = some (.slice A4 l c4)) (fun j => decide (17 ≤ j)) (by kernel_rfl) (hc4) (fun hS => ?_)
          refine Turns.take hS 0 _ rfl (by kernel_rfl) (by kernel_rfl) (by kernel_rfl) (by kernel_rfl) (fun _ _ _ h => h) (by rfl) (fun w' hS' => by (try dsimp only at hS'); go_split_ands; go_simp; (try with_reducible rfl)) ?_
          simp only [Act.put, List.getElem_toArray, List.getElem_cons_succ, List.getElem_cons_zero, List.setIfInBounds_toArray, List.set_cons_zero, List.set_cons_succ]
          refine Turns.take hS 2 _ rfl (by kernel_rfl) (by kernel_rfl) (by kernel_rfl) (by kernel_rfl) (fun _ _ _ h => h) (by rfl) (fun w' hS' => by (try dsimp only at hS'); go_split_ands; go_simp; (try with_reducible rfl)) ?_
          simp only [Act.put, List.getElem_toArray, List.getElem_cons_succ, List.getElem_cons_zero, List.setIfInBounds_toArray, List.set_cons_zero, List.set_cons_succ]
          refine Turns.take hS 3 _ rfl (by kernel_rfl) (by kernel_rfl) (by kernel_rfl) (by kernel_rfl) (fun _ _ _ h => h) (by rfl) (fun w' hS' => by (try dsimp only at hS'); go_split_ands; go_simp; (try with_reducible rfl)) ?_
          simp only [Act.put, List.getElem_toArray, List.getElem_cons_succ, List.getElem_cons_zero, List.setIfInBounds_toArray, List.set_cons_zero, List.set_cons_succ]
          refine Turns.take hS 4 _ rfl (by kernel_rfl) (by kernel_rfl) (by kernel_rfl) (by kernel_rfl) (fun _ _ _ h => h) (by rfl) (fun w' hS' => by (try dsimp only at hS'); go_split_ands; go_simp; (try with_reducible rfl)) ?_
          simp only [Act.put, List.getElem_toArray, List.getElem_cons_succ, List.getElem_cons_zero, List.setIfInBounds_toArray, List.set_cons_zero, List.set_cons_succ]
          refine Turns.take hS 5 _ rfl (by kernel_rfl) (by kernel_rfl) (by kernel_rfl) (by kernel_rfl) (fun _ _ _ h => h) (by rfl) (fun w' hS' => by (try dsimp only at hS'); go_split_ands; go_simp; (try with_reducible rfl)) ?_
          simp only [Act.put, List.getElem_toArray, List.getElem_cons_succ, List.getElem_cons_zero, List.setIfInBounds_toArray, List.set_cons_zero, List.set_cons_succ]
          refine Turns.take hS 6 _ rfl (by kernel_rfl) (by kernel_rfl) (by kernel_rfl) (by kernel_rfl) (fun _ _ _ h => h) (by rfl) (fun w' hS' => by (try dsimp only at hS'); go_split_ands; go_simp; (try with_reducible rfl)) ?_
          simp only [Act.put, List.getElem_toArray, List.getElem_cons_succ, List.getElem_cons_zero, List.setIfInBounds_toArray, List.set_cons_zero, List.set_cons_succ]
          refine Turns.next 1 rfl (by kernel_rfl) (by rfl) (fun K hK => ?_)
          go_simp
          refine hlen4.mono ?_
          rintro e w' ⟨rfl, rfl⟩
          refine hK.out _ _ (show (fun (w' : World) => w'.cell? ⟨gd, 1, none⟩ = some (.slice A4 l c4)) _ from hc4) ?_
          clear hK K hS
          have hS := (show (fun (w' : World) => w'.cell? ⟨gd, 1, none⟩ = some (.slice A4 l c4)) _ from hc4)
          refine Turns.take hS 7 _ rfl (by kernel_rfl) (by kernel_rfl) (by kernel_rfl) (by kernel_rfl) (fun _ _ _ h => h) (by rfl) (fun w' hS' => by (try dsimp only at hS'); go_split_ands; go_simp; (try with_reducible rfl)) ?_
          simp only [Act.put, List.getElem_toArray, List.getElem_cons_succ, List.getElem_cons_zero, List.setIfInBounds_toArray, List.set_cons_zero, List.set_cons_succ]
          refine Turns.take hS 8 _ rfl (by kernel_rfl) (by kernel_rfl) (by kernel_rfl) (by kernel_rfl) (fun _ _ _ h => h) (by rfl) (fun w' hS' => by (try dsimp only at hS'); go_split_ands; go_simp; (try with_reducible rfl)) ?_
          simp only [Act.put, List.getElem_toArray, List.getElem_cons_succ, List.getElem_cons_zero, List.setIfInBounds_toArray, List.set_cons_zero, List.set_cons_succ]
          refine Turns.take hS 9 _ rfl (by kernel_rfl) (by kernel_rfl) (by kernel_rfl) (by kernel_rfl) (fun _ _ _ h => h) (by rfl) (fun w' hS' => by (try dsimp only at hS'); go_split_ands; go_simp; (try with_reducible rfl)) ?_
          simp only [Act.put, List.getElem_toArray, List.getElem_cons_succ, List.getElem_cons_zero, List.setIfInBounds_toArray, List.set_cons_zero, List.set_cons_succ]
          refine Turns.take hS 10 _ rfl (by kernel_rfl) (by kernel_rfl) (by kernel_rfl) (by kernel_rfl) (fun _ _ _ h => h) (by rfl) (fun w' hS' => by (try dsimp only at hS'); go_split_ands; go_simp; (try with_reducible rfl)) ?_
          simp only [Act.put, List.getElem_toArray, List.getElem_cons_succ, List.getElem_cons_zero, List.setIfInBounds_toArray, List.set_cons_zero, List.set_cons_succ]
          refine Turns.take hS 11 _ rfl (by kernel_rfl) (by kernel_rfl) (by kernel_rfl) (by kernel_rfl) (fun _ _ _ h => h) (by rfl) (fun w' hS' => by (try dsimp only at hS'); go_split_ands; go_simp; (try with_reducible rfl)) ?_
          simp only [Act.put, List.getElem_toArray, List.getElem_cons_succ, List.getElem_cons_zero, List.setIfInBounds_toArray, List.set_cons_zero, List.set_cons_succ]
          refine Turns.take hS 12 _ rfl (by kernel_rfl) (by kernel_rfl) (by kernel_rfl) (by kernel_rfl) (fun _ _ _ h => h) (by rfl) (fun w' hS' => by (try dsimp only at hS'); go_split_ands; go_simp; (try with_reducible rfl)) ?_
          simp only [Act.put, List.getElem_toArray, List.getElem_cons_succ, List.getElem_cons_zero, List.setIfInBounds_toArray, List.set_cons_zero, List.set_cons_succ]
          refine Turns.take hS 13 _ rfl (by kernel_rfl) (by kernel_rfl) (by kernel_rfl) (by kernel_rfl) (fun _ _ _ h => h) (by rfl) (fun w' hS' => by (try dsimp only at hS'); go_split_ands; go_simp; (try with_reducible rfl)) ?_
          simp only [Act.put, List.getElem_toArray, List.getElem_cons_succ, List.getElem_cons_zero, List.setIfInBounds_toArray, List.set_cons_zero, List.set_cons_succ]
          refine Turns.next 14 rfl (by kernel_rfl) (by rfl) (fun K hK => ?_)
          go_simp
          refine hsame.mono ?_
          rintro e w8 ⟨rfl, hb8⟩
          have HT8 := Lib.hid (HT5.out.onto hb8)
          refine hK.out _ _ (show (fun (w' : World) => w'.cell? ⟨gd, 1, none⟩ = some (.slice A4 l c4)) _ from (HD4.out.below hb8 HD4.out.lt).cell 1) ?_
          clear hK K hS
          have hS := (show (fun (w' : World) => w'.cell? ⟨gd, 1, none⟩ = some (.slice A4 l c4)) _ from (HD4.out.below hb8 HD4.out.lt).cell 1)
          refine Turns.take hS 15 _ rfl (by kernel_rfl) (by kernel_rfl) (by kernel_rfl) (by kernel_rfl) (fun _ _ _ h => h) (by rfl) (fun w' hS' => by (try dsimp only at hS'); go_split_ands; go_simp; (try with_reducible rfl)) ?_
          simp only [Act.put, List.getElem_toArray, List.getElem_cons_succ, List.getElem_cons_zero, List.setIfInBounds_toArray, List.set_cons_zero, List.set_cons_succ]
          refine Turns.take hS 16 _ rfl (by kernel_rfl) (by kernel_rfl) (by kernel_rfl) (by kernel_rfl) (fun _ _ _ h => h) (by rfl) (fun w' hS' => by (try dsimp only at hS'); go_split_ands; go_simp; (try with_reducible rfl)) ?_
          simp only [Act.put, List.getElem_toArray, List.getElem_cons_succ, List.getElem_cons_zero, List.setIfInBounds_toArray, List.set_cons_zero, List.set_cons_succ]
          refine Turns.rest (late_done (by kernel_rfl)) ?_
          refine any_tail 17 (by rfl) (by kernel_rfl) ?_
          simp only [List.drop_succ_cons, List.drop_zero]
          clear hS
          clear HT5 HT4 HD4 hlen4 hsame hc4 hb8 hbd
          go_wp2
          go_roundw
          case rel => exact ⟨k + 1, L4, by omega, by go_num, HT8.out⟩
          case measure => simp [intOf]; omega
        replace hlr : L.length = room := by have := HT1.out.ring.len; omega
        have hst : s0 = 0 := hs
        subst hst
        go_upto_region 20 with fail
        have hbd : Below (wr.alloc (.cells #[.int .i64 0, .int .i64 s1] 38)).heap.size (wr.alloc (.cells #[.int .i64 0, .int .i64 s1] 38)) (wr.alloc (.cells #[.int .i64 0, .int .i64 s1] 38)).drew := below_drewN (Below.refl _ _) 1
        have HT2 := Lib.hid (HT1.out.onto hbd)
        have HO2 := Lib.hid (HO.out.below hbd HO.out.lt)
        obtain ⟨cq, hcq⟩ : ∃ cq, wr.heap.size = cq := ⟨_, rfl⟩
        have hp := RI.push_full _ _ _ _ _ _ s1 HT2.out.ring hlr
        simp only [hcq] at HO2 hq ⊢
        have ho2 := HO2.out.cell 1
        clear hcq HO HT1 hbd
        refine region_turns (fun (w' : World) => w'.cell? ⟨cq, 1, none⟩ = some (.int .i64 s1)) (fun j => decide (9 ≤ j)) (by kernel_rfl) (ho2) (fun hS => ?_)
        refine Turns.take hS 0 _ rfl (by kernel_rfl) (by kernel_rfl) (by kernel_rfl) (by kernel_rfl) (fun _ _ _ h => h) (by rfl) (fun w' hS' => by (try dsimp only at hS'); go_split_ands; go_simp; (try with_reducible rfl)) ?_
        simp only [Act.put, List.getElem_toArray, List.getElem_cons_succ, List.getElem_cons_zero, List.setIfInBounds_toArray, List.set_cons_zero, List.set_cons_succ]
        refine Turns.take hS 1 _ rfl (by kernel_rfl) (by kernel_rfl) (by kernel_rfl) (by kernel_rfl) (fun _ _ _ h => h) (by rfl) (fun w' hS' => by (try dsimp only at hS'); go_split_ands; go_simp; (try with_reducible rfl)) ?_
        simp only [Act.put, List.getElem_toArray, List.getElem_cons_succ, List.getElem_cons_zero, List.setIfInBounds_toArray, List.set_cons_zero, List.set_cons_succ]
        refine Turns.take hS 2 _ rfl (by kernel_rfl) (by kernel_rfl) (by kernel_rfl) (by kernel_rfl) (fun _ _ _ h => h) (by rfl) (fun w' hS' => by (try dsimp only at hS'); go_split_ands; go_simp; (try with_reducible rfl)) ?_
        simp only [Act.put, List.getElem_toArray, List.getElem_cons_succ, List.getElem_cons_zero, List.setIfInBounds_toArray, List.set_cons_zero, List.set_cons_succ]
        refine Turns.take hS 4 _ rfl (by kernel_rfl) (by kernel_rfl) (by kernel_rfl) (by kernel_rfl) (fun _ _ _ h => h) (by rfl) (fun w' hS' => by (try dsimp only at hS'); go_split_ands; go_simp; (try with_reducible rfl)) ?_
        simp only [Act.put, List.getElem_toArray, List.getElem_cons_succ, List.getElem_cons_zero, List.setIfInBounds_toArray, List.set_cons_zero, List.set_cons_succ]
        refine Turns.take hS 5 _ rfl (by kernel_rfl) (by kernel_rfl) (by kernel_rfl) (by kernel_rfl) (fun _ _ _ h => h) (by rfl) (fun w' hS' => by (try dsimp only at hS'); go_split_ands; go_simp; (try with_reducible rfl)) ?_
        simp only [Act.put, List.getElem_toArray, List.getElem_cons_succ, List.getElem_cons_zero, List.setIfInBounds_toArray, List.set_cons_zero, List.set_cons_succ]
        refine Turns.take hS 6 _ rfl (by kernel_rfl) (by kernel_rfl) (by kernel_rfl) (by kernel_rfl) (fun _ _ _ h => h) (by rfl) (fun w' hS' => by (try dsimp only at hS'); go_split_ands; go_simp; (try with_reducible rfl)) ?_
        simp only [Act.put, List.getElem_toArray, List.getElem_cons_succ, List.getElem_cons_zero, List.setIfInBounds_toArray, List.set_cons_zero, List.set_cons_succ]
        refine Turns.next 3 rfl (by kernel_rfl) (by rfl) (fun K hK => ?_)
        go_simp
        refine hp.mono ?_
        rintro e w5 ⟨rfl, hb5⟩
        have HT5 := Lib.hid (HT2.out.onto hb5)
        have HO5 := Lib.hid (HO2.out.below hb5 HO2.out.lt)
        have hdp := RI.dpush_full w5 (gd + 1) gd room L s1 HT5.out.doc (by omega)
        clear hb5
        refine hK.out _ _ (show (fun (w' : World) => w'.cell? ⟨cq, 1, none⟩ = some (.int .i64 s1)) _ from HO5.out.cell 1) ?_
        clear hK K hS
        have hS := (show (fun (w' : World) => w'.cell? ⟨cq, 1, none⟩ = some (.int .i64 s1)) _ from HO5.out.cell 1)
        refine Turns.next 7 rfl (by kernel_rfl) (by rfl) (fun K hK => ?_)
        go_simp
        refine hdp.mono ?_
        rintro e w4 ⟨rfl, m4, hm4⟩
        have hb4 : Below w5.heap.size w5 w4 := by rw [hm4]; exact below_drewN (Below.refl _ _) _
        have HT4 := Lib.hid (HT5.out.onto hb4)
        have HO4 := Lib.hid (HO5.out.below hb4 HO5.out.lt)
        clear hm4 hb4
        refine hK.out _ _ (show (fun (w' : World) => w'.cell? ⟨cq, 1, none⟩ = some (.int .i64 s1)) _ from HO4.out.cell 1) ?_
        clear hK K hS
        have hS := (show (fun (w' : World) => w'.cell? ⟨cq, 1, none⟩ = some (.int .i64 s1)) _ from HO4.out.cell 1)
        refine Turns.take hS 8 _ rfl (by kernel_rfl) (by kernel_rfl) (by kernel_rfl) (by kernel_rfl) (fun _ _ _ h => h) (by rfl) (fun w' hS' => by (try dsimp only at hS'); go_split_ands; go_simp; (try with_reducible rfl)) ?_
        simp only [Act.put, List.getElem_toArray, List.getElem_cons_succ, List.getElem_cons_zero, List.setIfInBounds_toArray, List.set_cons_zero, List.set_cons_succ]
        refine Turns.rest (late_done (by kernel_rfl)) ?_
        refine any_tail 9 (by rfl) (by kernel_rfl) ?_
        simp only [List.drop_succ_cons, List.drop_zero]
        clear hS
        clear HT5 HT2 HO5 HO2 HO4 hp ho2
        obtain ⟨L4, rfl⟩ : ∃ L4, L4 = L := ⟨_, rfl⟩
        go_upto_region 30 with fail
        have hbd : Below w4.heap.size w4 w4.drew := below_drewN (Below.refl _ _) 1
        obtain ⟨A4, c4, hd4, hr4⟩ := HT4.out.doc
        have hl64 : L4.length ≤ 64 := Nat.le_trans HT4.out.ring.len HT4.out.ring.fits.2
        have hlen4 := RI.len_any w4.drew _ _ _ _ L4 (HT4.out.ring.below hbd)
        have hsame := RI.same_any w4.drew (some ⟨z + 1, 0, none⟩) L4 A4 c4 hl64 (fun W hW => RI.list_any W _ _ _ _ L4 ((HT4.out.ring.below hbd).below hW)) (hr4.row.below hbd)
        have HD4 := Lib.hid (hd4.below hbd hd4.lt)
        have hc4 : w4.drew.cell? ⟨gd, 1, none⟩ = some (.slice A4 L4.length c4) := HD4.out.cell 1
        obtain ⟨l, hl⟩ : ∃ l, L4.length = l := ⟨_, rfl⟩
        rw [hl] at hlen4 hsame hc4 hl64 HD4
        have dne : ((l : Int) != (l : Int)) = false := by simp
        have HT5 := Lib.hid (HT4.out.onto hbd)
        clear hd4 hr4 hl
        refine region_turns (fun (w' : World) => w'.cell? ⟨gd, 1, none⟩ = some (.slice A4 l c4)) (fun j => decide (17 ≤ j)) (by kernel_rfl) (hc4) (fun hS => ?_)
        refine Turns.take hS 0 _ rfl (by kernel_rfl) (by kernel_rfl) (by kernel_rfl) (by kernel_rfl) (fun _ _ _ h => h) (by rfl) (fun w' hS' => by (try dsimp only at hS'); go_split_ands; go_simp; (try with_reducible rfl)) ?_
        simp only [Act.put, List.getElem_toArray, List.getElem_cons_succ, List.getElem_cons_zero, List.setIfInBounds_toArray, List.set_cons_zero, List.set_cons_succ]
        refine Turns.take hS 2 _ rfl (by kernel_rfl) (by kernel_rfl) (by kernel_rfl) (by kernel_rfl) (fun _ _ _ h => h) (by rfl) (fun w' hS' => by (try dsimp only at hS'); go_split_ands; go_simp; (try with_reducible rfl)) ?_
        simp only [Act.put, List.getElem_toArray, List.getElem_cons_succ, List.getElem_cons_zero, List.setIfInBounds_toArray, List.set_cons_zero, List.set_cons_succ]
        refine Turns.take hS 3 _ rfl (by kernel_rfl) (by kernel_rfl) (by kernel_rfl) (by kernel_rfl) (fun _ _ _ h => h) (by rfl) (fun w' hS' => by (try dsimp only at hS'); go_split_ands; go_simp; (try with_reducible rfl)) ?_
        simp only [Act.put, List.getElem_toArray, List.getElem_cons_succ, List.getElem_cons_zero, List.setIfInBounds_toArray, List.set_cons_zero, List.set_cons_succ]
        refine Turns.take hS 4 _ rfl (by kernel_rfl) (by kernel_rfl) (by kernel_rfl) (by kernel_rfl) (fun _ _ _ h => h) (by rfl) (fun w' hS' => by (try dsimp only at hS'); go_split_ands; go_simp; (try with_reducible rfl)) ?_
        simp only [Act.put, List.getElem_toArray, List.getElem_cons_succ, List.getElem_cons_zero, List.setIfInBounds_toArray, List.set_cons_zero, List.set_cons_succ]
        refine Turns.take hS 5 _ rfl (by kernel_rfl) (by kernel_rfl) (by kernel_rfl) (by kernel_rfl) (fun _ _ _ h => h) (by rfl) (fun w' hS' => by (try dsimp only at hS'); go_split_ands; go_simp; (try with_reducible rfl)) ?_
        simp only [Act.put, List.getElem_toArray, List.getElem_cons_succ, List.getElem_cons_zero, List.setIfInBounds_toArray, List.set_cons_zero, List.set_cons_succ]
        refine Turns.take hS 6 _ rfl (by kernel_rfl) (by kernel_rfl) (by kernel_rfl) (by kernel_rfl) (fun _ _ _ h => h) (by rfl) (fun w' hS' => by (try dsimp only at hS'); go_split_ands; go_simp; (try with_reducible rfl)) ?_
        simp only [Act.put, List.getElem_toArray, List.getElem_cons_succ, List.getElem_cons_zero, List.setIfInBounds_toArray, List.set_cons_zero, List.set_cons_succ]
        refine Turns.next 1 rfl (by kernel_rfl) (by rfl) (fun K hK => ?_)
        go_simp
        refine hlen4.mono ?_
        rintro e w' ⟨rfl, rfl⟩
        refine hK.out _ _ (show (fun (w' : World) => w'.cell? ⟨gd, 1, none⟩ = some (.slice A4 l c4)) _ from hc4) ?_
        clear hK K hS
        have hS := (show (fun (w' : World) => w'.cell? ⟨gd, 1, none⟩ = some (.slice A4 l c4)) _ from hc4)
        refine Turns.take hS 7 _ rfl (by kernel_rfl) (by kernel_rfl) (by kernel_rfl) (by kernel_rfl) (fun _ _ _ h => h) (by rfl) (fun w' hS' => by (try dsimp only at hS'); go_split_ands; go_simp; (try with_reducible rfl)) ?_
        simp only [Act.put, List.getElem_toArray, List.getElem_cons_succ, List.getElem_cons_zero, List.setIfInBounds_toArray, List.set_cons_zero, List.set_cons_succ]
        refine Turns.take hS 8 _ rfl (by kernel_rfl) (by kernel_rfl) (by kernel_rfl) (by kernel_rfl) (fun _ _ _ h => h) (by rfl) (fun w' hS' => by (try dsimp only at hS'); go_split_ands; go_simp; (try with_reducible rfl)) ?_
        simp only [Act.put, List.getElem_toArray, List.getElem_cons_succ, List.getElem_cons_zero, List.setIfInBounds_toArray, List.set_cons_zero, List.set_cons_succ]
        refine Turns.take hS 9 _ rfl (by kernel_rfl) (by kernel_rfl) (by kernel_rfl) (by kernel_rfl) (fun _ _ _ h => h) (by rfl) (fun w' hS' => by (try dsimp only at hS'); go_split_ands; go_simp; (try with_reducible rfl)) ?_
        simp only [Act.put, List.getElem_toArray, List.getElem_cons_succ, List.getElem_cons_zero, List.setIfInBounds_toArray, List.set_cons_zero, List.set_cons_succ]
        refine Turns.take hS 10 _ rfl (by kernel_rfl) (by kernel_rfl) (by kernel_rfl) (by kernel_rfl) (fun _ _ _ h => h) (by rfl) (fun w' hS' => by (try dsimp only at hS'); go_split_ands; go_simp; (try with_reducible rfl)) ?_
        simp only [Act.put, List.getElem_toArray, List.getElem_cons_succ, List.getElem_cons_zero, List.setIfInBounds_toArray, List.set_cons_zero, List.set_cons_succ]
        refine Turns.take hS 11 _ rfl (by kernel_rfl) (by kernel_rfl) (by kernel_rfl) (by kernel_rfl) (fun _ _ _ h => h) (by rfl) (fun w' hS' => by (try dsimp only at hS'); go_split_ands; go_simp; (try with_reducible rfl)) ?_
        simp only [Act.put, List.getElem_toArray, List.getElem_cons_succ, List.getElem_cons_zero, List.setIfInBounds_toArray, List.set_cons_zero, List.set_cons_succ]
        refine Turns.take hS 12 _ rfl (by kernel_rfl) (by kernel_rfl) (by kernel_rfl) (by kernel_rfl) (fun _ _ _ h => h) (by rfl) (fun w' hS' => by (try dsimp only at hS'); go_split_ands; go_simp; (try with_reducible rfl)) ?_
        simp only [Act.put, List.getElem_toArray, List.getElem_cons_succ, List.getElem_cons_zero, List.setIfInBounds_toArray, List.set_cons_zero, List.set_cons_succ]
        refine Turns.take hS 13 _ rfl (by kernel_rfl) (by kernel_rfl) (by kernel_rfl) (by kernel_rfl) (fun _ _ _ h => h) (by rfl) (fun w' hS' => by (try dsimp only at hS'); go_split_ands; go_simp; (try with_reducible rfl)) ?_
        simp only [Act.put, List.getElem_toArray, List.getElem_cons_succ, List.getElem_cons_zero, List.setIfInBounds_toArray, List.set_cons_zero, List.set_cons_succ]
        refine Turns.next 14 rfl (by kernel_rfl) (by rfl) (fun K hK => ?_)
        go_simp
        refine hsame.mono ?_
        rintro e w8 ⟨rfl, hb8⟩
        have HT8 := Lib.hid (HT5.out.onto hb8)
        refine hK.out _ _ (show (fun (w' : World) => w'.cell? ⟨gd, 1, none⟩ = some (.slice A4 l c4)) _ from (HD4.out.below hb8 HD4.out.lt).cell 1) ?_
        clear hK K hS
        have hS := (show (fun (w' : World) => w'.cell? ⟨gd, 1, none⟩ = some (.slice A4 l c4)) _ from (HD4.out.below hb8 HD4.out.lt).cell 1)
        refine Turns.take hS 15 _ rfl (by kernel_rfl) (by kernel_rfl) (by kernel_rfl) (by kernel_rfl) (fun _ _ _ h => h) (by rfl) (fun w' hS' => by (try dsimp only at hS'); go_split_ands; go_simp; (try with_reducible rfl)) ?_
        simp only [Act.put, List.getElem_toArray, List.getElem_cons_succ, List.getElem_cons_zero, List.setIfInBounds_toArray, List.set_cons_zero, List.set_cons_succ]
        refine Turns.take hS 16 _ rfl (by kernel_rfl) (by kernel_rfl) (by kernel_rfl) (by kernel_rfl) (fun _ _ _ h => h) (by rfl) (fun w' hS' => by (try dsimp only at hS'); go_split_ands; go_simp; (try with_reducible rfl)) ?_
        simp only [Act.put, List.getElem_toArray, List.getElem_cons_succ, List.getElem_cons_zero, List.setIfInBounds_toArray, List.set_cons_zero, List.set_cons_succ]
        refine Turns.rest (late_done (by kernel_rfl)) ?_
        refine any_tail 17 (by rfl) (by kernel_rfl) ?_
        simp only [List.drop_succ_cons, List.drop_zero]
        clear hS
        clear HT5 HT4 HD4 hlen4 hsame hc4 hb8 hbd
        go_wp2
        go_roundw
        case rel => exact ⟨k + 1, L4, by omega, by go_num, HT8.out⟩
        case measure => simp [intOf]; omega
      have k0 : (s0 == 0) = false := by simpa using hs
      clear hs
      by_cases hs : s0 = 1
      · by_cases hlr : L.length < room
        · have hst : s0 = 1 := hs
          subst hst
          go_upto_region 20 with fail
          have hbd : Below (wr.alloc (.cells #[.int .i64 1, .int .i64 s1] 38)).heap.size (wr.alloc (.cells #[.int .i64 1, .int .i64 s1] 38)) (wr.alloc (.cells #[.int .i64 1, .int .i64 s1] 38)).drew := below_drewN (Below.refl _ _) 1
          have HT2 := Lib.hid (HT1.out.onto hbd)
          have HO2 := Lib.hid (HO.out.below hbd HO.out.lt)
          obtain ⟨cq, hcq⟩ : ∃ cq, wr.heap.size = cq := ⟨_, rfl⟩
          have hp := RI.push_any _ _ _ _ _ _ s1 HT2.out.ring hlr
          simp only [hcq] at HO2 hq ⊢
          have ho2 := HO2.out.cell 1
          clear hcq HO HT1 hbd
          refine region_turns (fun (w' : World) => w'.cell? ⟨cq, 1, none⟩ = some (.int .i64 s1)) (fun j => decide (9 ≤ j)) (by kernel_rfl) (ho2) (fun hS => ?_)
          refine Turns.take hS 0 _ rfl (by kernel_rfl) (by kernel_rfl) (by kernel_rfl) (by kernel_rfl) (fun _ _ _ h => h) (by rfl) (fun w' hS' => by (try dsimp only at hS'); go_split_ands; go_simp; (try with_reducible rfl)) ?_
          simp only [Act.put, List.getElem_toArray, List.getElem_cons_succ, List.getElem_cons_zero, List.setIfInBounds_toArray, List.set_cons_zero, List.set_cons_succ]
          refine Turns.take hS 1 _ rfl (by kernel_rfl) (by kernel_rfl) (by kernel_rfl) (by kernel_rfl) (fun _ _ _ h => h) (by rfl) (fun w' hS' => by (try dsimp only at hS'); go_split_ands; go_simp; (try with_reducible rfl)) ?_
          simp only [Act.put, List.getElem_toArray, List.getElem_cons_succ, List.getElem_cons_zero, List.setIfInBounds_toArray, List.set_cons_zero, List.set_cons_succ]
          refine Turns.take hS 2 _ rfl (by kernel_rfl) (by kernel_rfl) (by kernel_rfl) (by kernel_rfl) (fun _ _ _ h => h) (by rfl) (fun w' hS' => by (try dsimp only at hS'); go_split_ands; go_simp; (try with_reducible rfl)) ?_
          simp only [Act.put, List.getElem_toArray, List.getElem_cons_succ, List.getElem_cons_zero, List.setIfInBounds_toArray, List.set_cons_zero, List.set_cons_succ]
          refine Turns.take hS 4 _ rfl (by kernel_rfl) (by kernel_rfl) (by kernel_rfl) (by kernel_rfl) (fun _ _ _ h => h) (by rfl) (fun w' hS' => by (try dsimp only at hS'); go_split_ands; go_simp; (try with_reducible rfl)) ?_
          simp only [Act.put, List.getElem_toArray, List.getElem_cons_succ, List.getElem_cons_zero, List.setIfInBounds_toArray, List.set_cons_zero, List.set_cons_succ]
          refine Turns.take hS 5 _ rfl (by kernel_rfl) (by kernel_rfl) (by kernel_rfl) (by kernel_rfl) (fun _ _ _ h => h) (by rfl) (fun w' hS' => by (try dsimp only at hS'); go_split_ands; go_simp; (try with_reducible rfl)) ?_
          simp only [Act.put, List.getElem_toArray, List.getElem_cons_succ, List.getElem_cons_zero, List.setIfInBounds_toArray, List.set_cons_zero, List.set_cons_succ]
          refine Turns.take hS 6 _ rfl (by kernel_rfl) (by kernel_rfl) (by kernel_rfl) (by kernel_rfl) (fun _ _ _ h => h) (by rfl) (fun w' hS' => by (try dsimp only at hS'); go_split_ands; go_simp; (try with_reducible rfl)) ?_
          simp only [Act.put, List.getElem_toArray, List.getElem_cons_succ, List.getElem_cons_zero, List.setIfInBounds_toArray, List.set_cons_zero, List.set_cons_succ]
          refine Turns.next 3 rfl (by kernel_rfl) (by rfl) (fun K hK => ?_)
          go_simp
          refine hp.mono ?_
          rintro e w5 ⟨rfl, hr5, hc5⟩
          have HT5 := Lib.hid (HT2.out.stepR hr5 hc5)
          have HO5 := Lib.hid (HO2.out.chg hc5 (by unfold RI.part; omega))
          have hdp := RI.dpush_any w5 (gd + 1) gd room L s1 HT5.out.doc (by omega) h64 HW.out (Nat.lt_succ_self _) HT5.out.size
          clear hr5 hc5
          refine hK.out _ _ (show (fun (w' : World) => w'.cell? ⟨cq, 1, none⟩ = some (.int .i64 s1)) _ from HO5.out.cell 1) ?_
          clear hK K hS
          have hS := (show (fun (w' : World) => w'.cell? ⟨cq, 1, none⟩ = some (.int .i64 s1)) _ from HO5.out.cell 1)
          refine Turns.next 7 rfl (by kernel_rfl) (by rfl) (fun K hK => ?_)
          go_simp
          refine hdp.mono ?_
          rintro e w4 ⟨rfl, hd4, hc4⟩
          have HT4 := Lib.hid (HT5.out.stepD hd4 hc4)
          have HO4 := Lib.hid (HO5.out.chg hc4 (by omega))
          clear hd4 hc4
          refine hK.out _ _ (show (fun (w' : World) => w'.cell? ⟨cq, 1, none⟩ = some (.int .i64 s1)) _ from HO4.out.cell 1) ?_
          clear hK K hS
          have hS := (show (fun (w' : World) => w'.cell? ⟨cq, 1, none⟩ = some (.int .i64 s1)) _ from HO4.out.cell 1)
          refine Turns.take hS 8 _ rfl (by kernel_rfl) (by kernel_rfl) (by kernel_rfl) (by kernel_rfl) (fun _ _ _ h => h) (by rfl) (fun w' hS' => by (try dsimp only at hS'); go_split_ands; go_simp; (try with_reducible rfl)) ?_
          simp only [Act.put, List.getElem_toArray, List.getElem_cons_succ, List.getElem_cons_zero, List.setIfInBounds_toArray, List.set_cons_zero, List.set_cons_succ]
          refine Turns.rest (late_done (by kernel_rfl)) ?_
          refine any_tail 9 (by rfl) (by kernel_rfl) ?_
          simp only [List.drop_succ_cons, List.drop_zero]
          clear hS
          clear HT5 HT2 HO5 HO2 HO4 hp ho2
          obtain ⟨L4, hL4⟩ : ∃ L4, L4 = L ++ [s1] := ⟨_, rfl⟩
          rw [← hL4] at HT4
          clear hL4
          go_upto_region 30 with fail
          have hbd : Below w4.heap.size w4 w4.drew := below_drewN (Below.refl _ _) 1
          obtain ⟨A4, c4, hd4, hr4⟩ := HT4.out.doc
          have hl64 : L4.length ≤ 64 := Nat.le_trans HT4.out.ring.len HT4.out.ring.fits.2
          have hlen4 := RI.len_any w4.drew _ _ _ _ L4 (HT4.out.ring.below hbd)
          have hsame := RI.same_any w4.drew (some ⟨z + 1, 0, none⟩) L4 A4 c4 hl64 (fun W hW => RI.list_any W _ _ _ _ L4 ((HT4.out.ring.below hbd).below hW)) (hr4.row.below hbd)
          have HD4 := Lib.hid (hd4.below hbd hd4.lt)
          have hc4 : w4.drew.cell? ⟨gd, 1, none⟩ = some (.slice A4 L4.length c4) := HD4.out.cell 1
          obtain ⟨l, hl⟩ : ∃ l, L4.length = l := ⟨_, rfl⟩
          rw [hl] at hlen4 hsame hc4 hl64 HD4
          have dne : ((l : Int) != (l : Int)) = false := by simp
          have HT5 := Lib.hid (HT4.out.onto hbd)
          clear hd4 hr4 hl
          refine region_turns (fun (w' : World) => w'.cell? ⟨gd, 1, none⟩ = some (.slice A4 l c4)) (fun j => decide (17 ≤ j)) (by kernel_rfl) (hc4) (fun hS => ?_)
          refine Turns.take hS 0 _ rfl (by kernel_rfl) (by kernel_rfl) (by kernel_rfl) (by kernel_rfl) (fun _ _ _ h => h) (by rfl) (fun w' hS' => by (try dsimp only at hS'); go_split_ands; go_simp; (try with_reducible rfl)) ?_
          simp only [Act.put, List.getElem_toArray, List.getElem_cons_succ, List.getElem_cons_zero, List.setIfInBounds_toArray, List.set_cons_zero, List.set_cons_succ]
          refine Turns.take hS 2 _ rfl (by kernel_rfl) (by kernel_rfl) (by kernel_rfl) (by kernel_rfl) (fun _ _ _ h => h) (by rfl) (fun w' hS' => by (try dsimp only at hS'); go_split_ands; go_simp; (try with_reducible rfl)) ?_
          simp only [Act.put, List.getElem_toArray, List.getElem_cons_succ, List.getElem_cons_zero, List.setIfInBounds_toArray, List.set_cons_zero, List.set_cons_succ]
          refine Turns.take hS 3 _ rfl (by kernel_rfl) (by kernel_rfl) (by kernel_rfl) (by kernel_rfl) (fun _ _ _ h => h) (by rfl) (fun w' hS' => by (try dsimp only at hS'); go_split_ands; go_simp; (try with_reducible rfl)) ?_
          simp only [Act.put, List.getElem_toArray, List.getElem_cons_succ, List.getElem_cons_zero, List.setIfInBounds_toArray, List.set_cons_zero, List.set_cons_succ]
          refine Turns.take hS 4 _ rfl (by kernel_rfl) (by kernel_rfl) (by kernel_rfl) (by kernel_rfl) (fun _ _ _ h => h) (by rfl) (fun w' hS' => by (try dsimp only at hS'); go_split_ands; go_simp; (try with_reducible rfl)) ?_
          simp only [Act.put, List.getElem_toArray, List.getElem_cons_succ, List.getElem_cons_zero, List.setIfInBounds_toArray, List.set_cons_zero, List.set_cons_succ]
          refine Turns.take hS 5 _ rfl (by kernel_rfl) (by kernel_rfl) (by kernel_rfl) (by kernel_rfl) (fun _ _ _ h => h) (by rfl) (fun w' hS' => by (try dsimp only at hS'); go_split_ands; go_simp; (try with_reducible rfl)) ?_
          simp only [Act.put, List.getElem_toArray, List.getElem_cons_succ, List.getElem_cons_zero, List.setIfInBounds_toArray, List.set_cons_zero, List.set_cons_succ]
          refine Turns.take hS 6 _ rfl (by kernel_rfl) (by kernel_rfl) (by kernel_rfl) (by kernel_rfl) (fun _ _ _ h => h) (by rfl) (fun w' hS' => by (try dsimp only at hS'); go_split_ands; go_simp; (try with_reducible rfl)) ?_
          simp only [Act.put, List.getElem_toArray, List.getElem_cons_succ, List.getElem_cons_zero, List.setIfInBounds_toArray, List.set_cons_zero, List.set_cons_succ]
          refine Turns.next 1 rfl (by kernel_rfl) (by rfl) (fun K hK => ?_)
          go_simp
          refine hlen4.mono ?_
          rintro e w' ⟨rfl, rfl⟩
          refine hK.out _ _ (show (fun (w' : World) => w'.cell? ⟨gd, 1, none⟩ = some (.slice A4 l c4)) _ from hc4) ?_
          clear hK K hS
          have hS := (show (fun (w' : World) => w'.cell? ⟨gd, 1, none⟩ = some (.slice A4 l c4)) _ from hc4)
          refine Turns.take hS 7 _ rfl (by kernel_rfl) (by kernel_rfl) (by kernel_rfl) (by kernel_rfl) (fun _ _ _ h => h) (by rfl) (fun w' hS' => by (try dsimp only at hS'); go_split_ands; go_simp; (try with_reducible rfl)) ?_
          simp only [Act.put, List.getElem_toArray, List.getElem_cons_succ, List.getElem_cons_zero, List.setIfInBounds_toArray, List.set_cons_zero, List.set_cons_succ]
          refine Turns.take hS 8 _ rfl (by kernel_rfl) (by kernel_rfl) (by kernel_rfl) (by kernel_rfl) (fun _ _ _ h => h) (by rfl) (fun w' hS' => by (try dsimp only at hS'); go_split_ands; go_simp; (try with_reducible rfl)) ?_
          simp only [Act.put, List.getElem_toArray, List.getElem_cons_succ, List.getElem_cons_zero, List.setIfInBounds_toArray, List.set_cons_zero, List.set_cons_succ]
          refine Turns.take hS 9 _ rfl (by kernel_rfl) (by kernel_rfl) (by kernel_rfl) (by kernel_rfl) (fun _ _ _ h => h) (by rfl) (fun w' hS' => by (try dsimp only at hS'); go_split_ands; go_simp; (try with_reducible rfl)) ?_
          simp only [Act.put, List.getElem_toArray, List.getElem_cons_succ, List.getElem_cons_zero, List.setIfInBounds_toArray, List.set_cons_zero, List.set_cons_succ]
          refine Turns.take hS 10 _ rfl (by kernel_rfl) (by kernel_rfl) (by kernel_rfl) (by kernel_rfl) (fun _ _ _ h => h) (by rfl) (fun w' hS' => by (try dsimp only at hS'); go_split_ands; go_simp; (try with_reducible rfl)) ?_
          simp only [Act.put, List.getElem_toArray, List.getElem_cons_succ, List.getElem_cons_zero, List.setIfInBounds_toArray, List.set_cons_zero, List.set_cons_succ]
          refine Turns.take hS 11 _ rfl (by kernel_rfl) (by kernel_rfl) (by kernel_rfl) (by kernel_rfl) (fun _ _ _ h => h) (by rfl) (fun w' hS' => by (try dsimp only at hS'); go_split_ands; go_simp; (try with_reducible rfl)) ?_
          simp only [Act.put, List.getElem_toArray, List.getElem_cons_succ, List.getElem_cons_zero, List.setIfInBounds_toArray, List.set_cons_zero, List.set_cons_succ]
          refine Turns.take hS 12 _ rfl (by kernel_rfl) (by kernel_rfl) (by kernel_rfl) (by kernel_rfl) (fun _ _ _ h => h) (by rfl) (fun w' hS' => by (try dsimp only at hS'); go_split_ands; go_simp; (try with_reducible rfl)) ?_
          simp only [Act.put, List.getElem_toArray, List.getElem_cons_succ, List.getElem_cons_zero, List.setIfInBounds_toArray, List.set_cons_zero, List.set_cons_succ]
          refine Turns.take hS 13 _ rfl (by kernel_rfl) (by kernel_rfl) (by kernel_rfl) (by kernel_rfl) (fun _ _ _ h => h) (by rfl) (fun w' hS' => by (try dsimp only at hS'); go_split_ands; go_simp; (try with_reducible rfl)) ?_
          simp only [Act.put, List.getElem_toArray, List.getElem_cons_succ, List.getElem_cons_zero, List.setIfInBounds_toArray, List.set_cons_zero, List.set_cons_succ]
          refine Turns.next 14 rfl (by kernel_rfl) (by rfl) (fun K hK => ?_)
          go_simp
          refine hsame.mono ?_
          rintro e w8 ⟨rfl, hb8⟩
          have HT8 := Lib.hid (HT5.out.onto hb8)
          refine hK.out _ _ (show (fun (w' : World) => w'.cell? ⟨gd, 1, none⟩ = some (.slice A4 l c4)) _ from (HD4.out.below hb8 HD4.out.lt).cell 1) ?_
          clear hK K hS
          have hS := (show (fun (w' : World) => w'.cell? ⟨gd, 1, none⟩ = some (.slice A4 l c4)) _ from (HD4.out.below hb8 HD4.out.lt).cell 1)
          refine Turns.take hS 15 _ rfl (by kernel_rfl) (by kernel_rfl) (by kernel_rfl) (by kernel_rfl) (fun _ _ _ h => h) (by rfl) (fun w' hS' => by (try dsimp only at hS'); go_split_ands; go_simp; (try with_reducible rfl)) ?_
          simp only [Act.put, List.getElem_toArray, List.getElem_cons_succ, List.getElem_cons_zero, List.setIfInBounds_toArray, List.set_cons_zero, List.set_cons_succ]
          refine Turns.take hS 16 _ rfl (by kernel_rfl) (by kernel_rfl) (by kernel_rfl) (by kernel_rfl) (fun _ _ _ h => h) (by rfl) (fun w' hS' => by (try dsimp only at hS'); go_split_ands; go_simp; (try with_reducible rfl)) ?_
          simp only [Act.put, List.getElem_toArray, List.getElem_cons_succ, List.getElem_cons_zero, List.setIfInBounds_toArray, List.set_cons_zero, List.set_cons_succ]
          refine Turns.rest (late_done (by kernel_rfl)) ?_
          refine any_tail 17 (by rfl) (by kernel_rfl) ?_
          simp only [List.drop_succ_cons, List.drop_zero]
          clear hS
          clear HT5 HT4 HD4 hlen4 hsame hc4 hb8 hbd
          go_wp2
          go_roundw
          case rel => exact ⟨k + 1, L4, by omega, by go_num, HT8.out⟩
          case measure => simp [intOf]; omega
        replace hlr : L.length = room := by have := HT1.out.ring.len; omega
        have hst : s0 = 1 := hs
        subst hst
        go_upto_region 20 with fail
        have hbd : Below (wr.alloc (.cells #[.int .i64 1, .int .i64 s1] 38)).heap.size (wr.alloc (.cells #[.int .i64 1, .int .i64 s1] 38)) (wr.alloc (.cells #[.int .i64 1, .int .i64 s1] 38)).drew := below_drewN (Below.refl _ _) 1
        have HT2 := Lib.hid (HT1.out.onto hbd)
        have HO2 := Lib.hid (HO.out.below hbd HO.out.lt)
        obtain ⟨cq, hcq⟩ : ∃ cq, wr.heap.size = cq := ⟨_, rfl⟩
        have hp := RI.push_full _ _ _ _ _ _ s1 HT2.out.ring hlr
        simp only [hcq] at HO2 hq ⊢
        have ho2 := HO2.out.cell 1
        clear hcq HO HT1 hbd
        refine region_turns (fun (w' : World) => w'.cell? ⟨cq, 1, none⟩ = some (.int .i64 s1)) (fun j => decide (9 ≤ j)) (by kernel_rfl) (ho2) (fun hS => ?_)
        refine Turns.take hS 0 _ rfl (by kernel_rfl) (by kernel_rfl) (by kernel_rfl) (by kernel_rfl) (fun _ _ _ h => h) (by rfl) (fun w' hS' => by (try dsimp only at hS'); go_split_ands; go_simp; (try with_reducible rfl)) ?_
        simp only [Act.put, List.getElem_toArray, List.getElem_cons_succ, List.getElem_cons_zero, List.setIfInBounds_toArray, List.set_cons_zero, List.set_cons_succ]
        refine Turns.take hS 1 _ rfl (by kernel_rfl) (by kernel_rfl) (by kernel_rfl) (by kernel_rfl) (fun _ _ _ h => h) (by rfl) (fun w' hS' => by (try dsimp only at hS'); go_split_ands; go_simp; (try with_reducible rfl)) ?_
        simp only [Act.put, List.getElem_toArray, List.getElem_cons_succ, List.getElem_cons_zero, List.setIfInBounds_toArray, List.set_cons_zero, List.set_cons_succ]
        refine Turns.take hS 2 _ rfl (by kernel_rfl) (by kernel_rfl) (by kernel_rfl) (by kernel_rfl) (fun _ _ _ h => h) (by rfl) (fun w' hS' => by (try dsimp only at hS'); go_split_ands; go_simp; (try with_reducible rfl)) ?_
        simp only [Act.put, List.getElem_toArray, List.getElem_cons_succ, List.getElem_cons_zero, List.setIfInBounds_toArray, List.set_cons_zero, List.set_cons_succ]
        refine Turns.take hS 4 _ rfl (by kernel_rfl) (by kernel_rfl) (by kernel_rfl) (by kernel_rfl) (fun _ _ _ h => h) (by rfl) (fun w' hS' => by (try dsimp only at hS'); go_split_ands; go_simp; (try with_reducible rfl)) ?_
        simp only [Act.put, List.getElem_toArray, List.getElem_cons_succ, List.getElem_cons_zero, List.setIfInBounds_toArray, List.set_cons_zero, List.set_cons_succ]
        refine Turns.take hS 5 _ rfl (by kernel_rfl) (by kernel_rfl) (by kernel_rfl) (by kernel_rfl) (fun _ _ _ h => h) (by rfl) (fun w' hS' => by (try dsimp only at hS'); go_split_ands; go_simp; (try with_reducible rfl)) ?_
        simp only [Act.put, List.getElem_toArray, List.getElem_cons_succ, List.getElem_cons_zero, List.setIfInBounds_toArray, List.set_cons_zero, List.set_cons_succ]
        refine Turns.take hS 6 _ rfl (by kernel_rfl) (by kernel_rfl) (by kernel_rfl) (by kernel_rfl) (fun _ _ _ h => h) (by rfl) (fun w' hS' => by (try dsimp only at hS'); go_split_ands; go_simp; (try with_reducible rfl)) ?_
        simp only [Act.put, List.getElem_toArray, List.getElem_cons_succ, List.getElem_cons_zero, List.setIfInBounds_toArray, List.set_cons_zero, List.set_cons_succ]
        refine Turns.next 3 rfl (by kernel_rfl) (by rfl) (fun K hK => ?_)
        go_simp
        refine hp.mono ?_
        rintro e w5 ⟨rfl, hb5⟩
        have HT5 := Lib.hid (HT2.out.onto hb5)
        have HO5 := Lib.hid (HO2.out.below hb5 HO2.out.lt)
        have hdp := RI.dpush_full w5 (gd + 1) gd room L s1 HT5.out.doc (by omega)
        clear hb5
        refine hK.out _ _ (show (fun (w' : World) => w'.cell? ⟨cq, 1, none⟩ = some (.int .i64 s1)) _ from HO5.out.cell 1) ?_
        clear hK K hS
        have hS := (show (fun (w' : World) => w'.cell? ⟨cq, 1, none⟩ = some (.int .i64 s1)) _ from HO5.out.cell 1)
        refine Turns.next 7 rfl (by kernel_rfl) (by rfl) (fun K hK => ?_)
        go_simp
        refine hdp.mono ?_
        rintro e w4 ⟨rfl, m4, hm4⟩
        have hb4 : Below w5.heap.size w5 w4 := by rw [hm4]; exact below_drewN (Below.refl _ _) _
        have HT4 := Lib.hid (HT5.out.onto hb4)
        have HO4 := Lib.hid (HO5.out.below hb4 HO5.out.lt)
        clear hm4 hb4
        refine hK.out _ _ (show (fun (w' : World) => w'.cell? ⟨cq, 1, none⟩ = some (.int .i64 s1)) _ from HO4.out.cell 1) ?_
        clear hK K hS
        have hS := (show (fun (w' : World) => w'.cell? ⟨cq, 1, none⟩ = some (.int .i64 s1)) _ from HO4.out.cell 1)
        refine Turns.take hS 8 _ rfl (by kernel_rfl) (by kernel_rfl) (by kernel_rfl) (by kernel_rfl) (fun _ _ _ h => h) (by rfl) (fun w' hS' => by (try dsimp only at hS'); go_split_ands; go_simp; (try with_reducible rfl)) ?_
        simp only [Act.put, List.getElem_toArray, List.getElem_cons_succ, List.getElem_cons_zero, List.setIfInBounds_toArray, List.set_cons_zero, List.set_cons_succ]
        refine Turns.rest (late_done (by kernel_rfl)) ?_
        refine any_tail 9 (by rfl) (by kernel_rfl) ?_
        simp only [List.drop_succ_cons, List.drop_zero]
        clear hS
        clear HT5 HT2 HO5 HO2 HO4 hp ho2
        obtain ⟨L4, rfl⟩ : ∃ L4, L4 = L := ⟨_, rfl⟩
        go_upto_region 30 with fail
        have hbd : Below w4.heap.size w4 w4.drew := below_drewN (Below.refl _ _) 1
        obtain ⟨A4, c4, hd4, hr4⟩ := HT4.out.doc
        have hl64 : L4.length ≤ 64 := Nat.le_trans HT4.out.ring.len HT4.out.ring.fits.2
        have hlen4 := RI.len_any w4.drew _ _ _ _ L4 (HT4.out.ring.below hbd)
        have hsame := RI.same_any w4.drew (some ⟨z + 1, 0, none⟩) L4 A4 c4 hl64 (fun W hW => RI.list_any W _ _ _ _ L4 ((HT4.out.ring.below hbd).below hW)) (hr4.row.below hbd)
        have HD4 := Lib.hid (hd4.below hbd hd4.lt)
        have hc4 : w4.drew.cell? ⟨gd, 1, none⟩ = some (.slice A4 L4.length c4) := HD4.out.cell 1
        obtain ⟨l, hl⟩ : ∃ l, L4.length = l := ⟨_, rfl⟩
        rw [hl] at hlen4 hsame hc4 hl64 HD4
        have dne : ((l : Int) != (l : Int)) = false := by simp
        have HT5 := Lib.hid (HT4.out.onto hbd)
        clear hd4 hr4 hl
        refine region_turns (fun (w' : World) => w'.cell? ⟨gd, 1, none⟩ = some (.slice A4 l c4)) (fun j => decide (17 ≤ j)) (by kernel_rfl) (hc4) (fun hS => ?_)
        refine Turns.take hS 0 _ rfl (by kernel_rfl) (by kernel_rfl) (by kernel_rfl) (by kernel_rfl) (fun _ _ _ h => h) (by rfl) (fun w' hS' => by (try dsimp only at hS'); go_split_ands; go_simp; (try with_reducible rfl)) ?_
        simp only [Act.put, List.getElem_toArray, List.getElem_cons_succ, List.getElem_cons_zero, List.setIfInBounds_toArray, List.set_cons_zero, List.set_cons_succ]
        refine Turns.take hS 2 _ rfl (by kernel_rfl) (by kernel_rfl) (by kernel_rfl) (by kernel_rfl) (fun _ _ _ h => h) (by rfl) (fun w' hS' => by (try dsimp only at hS'); go_split_ands; go_simp; (try with_reducible rfl)) ?_
        simp only [Act.put, List.getElem_toArray, List.getElem_cons_succ, List.getElem_cons_zero, List.setIfInBounds_toArray, List.set_cons_zero, List.set_cons_succ]
        refine Turns.take hS 3 _ rfl (by kernel_rfl) (by kernel_rfl) (by kernel_rfl) (by kernel_rfl) (fun _ _ _ h => h) (by rfl) (fun w' hS' => by (try dsimp only at hS'); go_split_ands; go_simp; (try with_reducible rfl)) ?_
        simp only [Act.put, List.getElem_toArray, List.getElem_cons_succ, List.getElem_cons_zero, List.setIfInBounds_toArray, List.set_cons_zero, List.set_cons_succ]
        refine Turns.take hS 4 _ rfl (by kernel_rfl) (by kernel_rfl) (by kernel_rfl) (by kernel_rfl) (fun _ _ _ h => h) (by rfl) (fun w' hS' => by (try dsimp only at hS'); go_split_ands; go_simp; (try with_reducible rfl)) ?_
        simp only [Act.put, List.getElem_toArray, List.getElem_cons_succ, List.getElem_cons_zero, List.setIfInBounds_toArray, List.set_cons_zero, List.set_cons_succ]
        refine Turns.take hS 5 _ rfl (by kernel_rfl) (by kernel_rfl) (by kernel_rfl) (by kernel_rfl) (fun _ _ _ h => h) (by rfl) (fun w' hS' => by (try dsimp only at hS'); go_split_ands; go_simp; (try with_reducible rfl)) ?_
        simp only [Act.put, List.getElem_toArray, List.getElem_cons_succ, List.getElem_cons_zero, List.setIfInBounds_toArray, List.set_cons_zero, List.set_cons_succ]
        refine Turns.take hS 6 _ rfl (by kernel_rfl) (by kernel_rfl) (by kernel_rfl) (by kernel_rfl) (fun _ _ _ h => h) (by rfl) (fun w' hS' => by (try dsimp only at hS'); go_split_ands; go_simp; (try with_reducible rfl)) ?_
        simp only [Act.put, List.getElem_toArray, List.getElem_cons_succ, List.getElem_cons_zero, List.setIfInBounds_toArray, List.set_cons_zero, List.set_cons_succ]
        refine Turns.next 1 rfl (by kernel_rfl) (by rfl) (fun K hK => ?_)
        go_simp
        refine hlen4.mono ?_
        rintro e w' ⟨rfl, rfl⟩
        refine hK.out _ _ (show (fun (w' : World) => w'.cell? ⟨gd, 1, none⟩ = some (.slice A4 l c4)) _ from hc4) ?_
        clear hK K hS
        have hS := (show (fun (w' : World) => w'.cell? ⟨gd, 1, none⟩ = some (.slice A4 l c4)) _ from hc4)
        refine Turns.take hS 7 _ rfl (by kernel_rfl) (by kernel_rfl) (by kernel_rfl) (by kernel_rfl) (fun _ _ _ h => h) (by rfl) (fun w' hS' => by (try dsimp only at hS'); go_split_ands; go_simp; (try with_reducible rfl)) ?_
        simp only [Act.put, List.getElem_toArray, List.getElem_cons_succ, List.getElem_cons_zero, List.setIfInBounds_toArray, List.set_cons_zero, List.set_cons_succ]
        refine Turns.take hS 8 _ rfl (by kernel_rfl) (by kernel_rfl) (by kernel_rfl) (by kernel_rfl) (fun _ _ _ h => h) (by rfl) (fun w' hS' => by (try dsimp only at hS'); go_split_ands; go_simp; (try with_reducible rfl)) ?_
        simp only [Act.put, List.getElem_toArray, List.getElem_cons_succ, List.getElem_cons_zero, List.setIfInBounds_toArray, List.set_cons_zero, List.set_cons_succ]
        refine Turns.take hS 9 _ rfl (by kernel_rfl) (by kernel_rfl) (by kernel_rfl) (by kernel_rfl) (fun _ _ _ h => h) (by rfl) (fun w' hS' => by (try dsimp only at hS'); go_split_ands; go_simp; (try with_reducible rfl)) ?_
        simp only [Act.put, List.getElem_toArray, List.getElem_cons_succ, List.getElem_cons_zero, List.setIfInBounds_toArray, List.set_cons_zero, List.set_cons_succ]
        refine Turns.take hS 10 _ rfl (by kernel_rfl) (by kernel_rfl) (by kernel_rfl) (by kernel_rfl) (fun _ _ _ h => h) (by rfl) (fun w' hS' => by (try dsimp only at hS'); go_split_ands; go_simp; (try with_reducible rfl)) ?_
        simp only [Act.put, List.getElem_toArray, List.getElem_cons_succ, List.getElem_cons_zero, List.setIfInBounds_toArray, List.set_cons_zero, List.set_cons_succ]
        refine Turns.take hS 11 _ rfl (by kernel_rfl) (by kernel_rfl) (by kernel_rfl) (by kernel_rfl) (fun _ _ _ h => h) (by rfl) (fun w' hS' => by (try dsimp only at hS'); go_split_ands; go_simp; (try with_reducible rfl)) ?_
        simp only [Act.put, List.getElem_toArray, List.getElem_cons_succ, List.getElem_cons_zero, List.setIfInBounds_toArray, List.set_cons_zero, List.set_cons_succ]
        refine Turns.take hS 12 _ rfl (by kernel_rfl) (by kernel_rfl) (by kernel_rfl) (by kernel_rfl) (fun _ _ _ h => h) (by rfl) (fun w' hS' => by (try dsimp only at hS'); go_split_ands; go_simp; (try with_reducible rfl)) ?_
        simp only [Act.put, List.getElem_toArray, List.getElem_cons_succ, List.getElem_cons_zero, List.setIfInBounds_toArray, List.set_cons_zero, List.set_cons_succ]
        refine Turns.take hS 13 _ rfl (by kernel_rfl) (by kernel_rfl) (by kernel_rfl) (by kernel_rfl) (fun _ _ _ h => h) (by rfl) (fun w' hS' => by (try dsimp only at hS'); go_split_ands; go_simp; (try with_reducible rfl)) ?_
        simp only [Act.put, List.getElem_toArray, List.getElem_cons_succ, List.getElem_cons_zero, List.setIfInBounds_toArray, List.set_cons_zero, List.set_cons_succ]
        refine Turns.next 14 rfl (by kernel_rfl) (by rfl) (fun K hK => ?_)
        go_simp
        refine hsame.mono ?_
        rintro e w8 ⟨rfl, hb8⟩
        have HT8 := Lib.hid (HT5.out.onto hb8)
        refine hK.out _ _ (show (fun (w' : World) => w'.cell? ⟨gd, 1, none⟩ = some (.slice A4 l c4)) _ from (HD4.out.below hb8 HD4.out.lt).cell 1) ?_
        clear hK K hS
        have hS := (show (fun (w' : World) => w'.cell? ⟨gd, 1, none⟩ = some (.slice A4 l c4)) _ from (HD4.out.below hb8 HD4.out.lt).cell 1)
        refine Turns.take hS 15 _ rfl (by kernel_rfl) (by kernel_rfl) (by kernel_rfl) (by kernel_rfl) (fun _ _ _ h => h) (by rfl) (fun w' hS' => by (try dsimp only at hS'); go_split_ands; go_simp; (try with_reducible rfl)) ?_
        simp only [Act.put, List.getElem_toArray, List.getElem_cons_succ, List.getElem_cons_zero, List.setIfInBounds_toArray, List.set_cons_zero, List.set_cons_succ]
        refine Turns.take hS 16 _ rfl (by kernel_rfl) (by kernel_rfl) (by kernel_rfl) (by kernel_rfl) (fun _ _ _ h => h) (by rfl) (fun w' hS' => by (try dsimp only at hS'); go_split_ands; go_simp; (try with_reducible rfl)) ?_
        simp only [Act.put, List.getElem_toArray, List.getElem_cons_succ, List.getElem_cons_zero, List.setIfInBounds_toArray, List.set_cons_zero, List.set_cons_succ]
        refine Turns.rest (late_done (by kernel_rfl)) ?_
        refine any_tail 17 (by rfl) (by kernel_rfl) ?_
        simp only [List.drop_succ_cons, List.drop_zero]
        clear hS
        clear HT5 HT4 HD4 hlen4 hsame hc4 hb8 hbd
        go_wp2
        go_roundw
        case rel => exact ⟨k + 1, L4, by omega, by go_num, HT8.out⟩
        case measure => simp [intOf]; omega
      have k1 : (s0 == 1) = false := by simpa using hs
      clear hs
      by_cases hs : s0 = 2
      · have hst : s0 = 2 := hs
        subst hst
        match L, HT1 with
        | [], HT1 =>
          have hp := RI.pop_none _ _ _ _ _ HT1.out.ring
          have hdp := RI.dpop_none _ _ _ _ HT1.out.doc
          go_upto_region 30 with (first
            | (go_at_call 10; (with_reducible refine hp.mono ?_); rintro e w' ⟨rfl, rfl⟩)
            | (go_at_call 15; (with_reducible refine hdp.mono ?_); rintro e w' ⟨rfl, rfl⟩))
          obtain ⟨w4, hw4⟩ : ∃ w4, wr.alloc (.cells #[.int .i64 2, .int .i64 s1] 38) = w4 := ⟨_, rfl⟩
          obtain ⟨L4, hL4⟩ : ∃ L4 : List Int, L4 = [] := ⟨_, rfl⟩
          have HT4 : Hid (Tied w z gd room L4 L4 w4) := by rw [← hw4, hL4]; exact HT1
          rw [hw4]
          clear hw4 HT1 HO hp hdp hL4
          have hbd : Below w4.heap.size w4 w4.drew := below_drewN (Below.refl _ _) 1
          obtain ⟨A4, c4, hd4, hr4⟩ := HT4.out.doc
          have hl64 : L4.length ≤ 64 := Nat.le_trans HT4.out.ring.len HT4.out.ring.fits.2
          have hlen4 := RI.len_any w4.drew _ _ _ _ L4 (HT4.out.ring.below hbd)
          have hsame := RI.same_any w4.drew (some ⟨z + 1, 0, none⟩) L4 A4 c4 hl64 (fun W hW => RI.list_any W _ _ _ _ L4 ((HT4.out.ring.below hbd).below hW)) (hr4.row.below hbd)
          have HD4 := Lib.hid (hd4.below hbd hd4.lt)
          have hc4 : w4.drew.cell? ⟨gd, 1, none⟩ = some (.slice A4 L4.length c4) := HD4.out.cell 1
          obtain ⟨l, hl⟩ : ∃ l, L4.length = l := ⟨_, rfl⟩
          rw [hl] at hlen4 hsame hc4 hl64 HD4
          have dne : ((l : Int) != (l : Int)) = false := by simp
          have HT5 := Lib.hid (HT4.out.onto hbd)
          clear hd4 hr4 hl
          refine region_turns (fun (w' : World) => w'.cell? ⟨gd, 1, none⟩ = some (.slice A4 l c4)) (fun j => decide (17 ≤ j)) (by kernel_rfl) (hc4) (fun hS => ?_)
          refine Turns.take hS 0 _ rfl (by kernel_rfl) (by kernel_rfl) (by kernel_rfl) (by kernel_rfl) (fun _ _ _ h => h) (by rfl) (fun w' hS' => by (try dsimp only at hS'); go_split_ands; go_simp; (try with_reducible rfl)) ?_
          simp only [Act.put, List.getElem_toArray, List.getElem_cons_succ, List.getElem_cons_zero, List.setIfInBounds_toArray, List.set_cons_zero, List.set_cons_succ]
          refine Turns.take hS 2 _ rfl (by kernel_rfl) (by kernel_rfl) (by kernel_rfl) (by kernel_rfl) (fun _ _ _ h => h) (by rfl) (fun w' hS' => by (try dsimp only at hS'); go_split_ands; go_simp; (try with_reducible rfl)) ?_
          simp only [Act.put, List.getElem_toArray, List.getElem_cons_succ, List.getElem_cons_zero, List.setIfInBounds_toArray, List.set_cons_zero, List.set_cons_succ]
          refine Turns.take hS 3 _ rfl (by kernel_rfl) (by kernel_rfl) (by kernel_rfl) (by kernel_rfl) (fun _ _ _ h => h) (by rfl) (fun w' hS' => by (try dsimp only at hS'); go_split_ands; go_simp; (try with_reducible rfl)) ?_
          simp only [Act.put, List.getElem_toArray, List.getElem_cons_succ, List.getElem_cons_zero, List.setIfInBounds_toArray, List.set_cons_zero, List.set_cons_succ]
          refine Turns.take hS 4 _ rfl (by kernel_rfl) (by kernel_rfl) (by kernel_rfl) (by kernel_rfl) (fun _ _ _ h => h) (by rfl) (fun w' hS' => by (try dsimp only at hS'); go_split_ands; go_simp; (try with_reducible rfl)) ?_
          simp only [Act.put, List.getElem_toArray, List.getElem_cons_succ, List.getElem_cons_zero, List.setIfInBounds_toArray, List.set_cons_zero, List.set_cons_succ]
          refine Turns.take hS 5 _ rfl (by kernel_rfl) (by kernel_rfl) (by kernel_rfl) (by kernel_rfl) (fun _ _ _ h => h) (by rfl) (fun w' hS' => by (try dsimp only at hS'); go_split_ands; go_simp; (try with_reducible rfl)) ?_
          simp only [Act.put, List.getElem_toArray, List.getElem_cons_succ, List.getElem_cons_zero, List.setIfInBounds_toArray, List.set_cons_zero, List.set_cons_succ]
          refine Turns.take hS 6 _ rfl (by kernel_rfl) (by kernel_rfl) (by kernel_rfl) (by kernel_rfl) (fun _ _ _ h => h) (by rfl) (fun w' hS' => by (try dsimp only at hS'); go_split_ands; go_simp; (try with_reducible rfl)) ?_
          simp only [Act.put, List.getElem_toArray, List.getElem_cons_succ, List.getElem_cons_zero, List.setIfInBounds_toArray, List.set_cons_zero, List.set_cons_succ]
          refine Turns.next 1 rfl (by kernel_rfl) (by rfl) (fun K hK => ?_)
          go_simp
          refine hlen4.mono ?_
          rintro e w' ⟨rfl, rfl⟩
          refine hK.out _ _ (show (fun (w' : World) => w'.cell? ⟨gd, 1, none⟩ = some (.slice A4 l c4)) _ from hc4) ?_
          clear hK K hS
          have hS := (show (fun (w' : World) => w'.cell? ⟨gd, 1, none⟩ = some (.slice A4 l c4)) _ from hc4)
          refine Turns.take hS 7 _ rfl (by kernel_rfl) (by kernel_rfl) (by kernel_rfl) (by kernel_rfl) (fun _ _ _ h => h) (by rfl) (fun w' hS' => by (try dsimp only at hS'); go_split_ands; go_simp; (try with_reducible rfl)) ?_
          simp only [Act.put, List.getElem_toArray, List.getElem_cons_succ, List.getElem_cons_zero, List.setIfInBounds_toArray, List.set_cons_zero, List.set_cons_succ]
          refine Turns.take hS 8 _ rfl (by kernel_rfl) (by kernel_rfl) (by kernel_rfl) (by kernel_rfl) (fun _ _ _ h => h) (by rfl) (fun w' hS' => by (try dsimp only at hS'); go_split_ands; go_simp; (try with_reducible rfl)) ?_
          simp only [Act.put, List.getElem_toArray, List.getElem_cons_succ, List.getElem_cons_zero, List.setIfInBounds_toArray, List.set_cons_zero, List.set_cons_succ]
          refine Turns.take hS 9 _ rfl (by kernel_rfl) (by kernel_rfl) (by kernel_rfl) (by kernel_rfl) (fun _ _ _ h => h) (by rfl) (fun w' hS' => by (try dsimp only at hS'); go_split_ands; go_simp; (try with_reducible rfl)) ?_
          simp only [Act.put, List.getElem_toArray, List.getElem_cons_succ, List.getElem_cons_zero, List.setIfInBounds_toArray, List.set_cons_zero, List.set_cons_succ]
          refine Turns.take hS 10 _ rfl (by kernel_rfl) (by kernel_rfl) (by kernel_rfl) (by kernel_rfl) (fun _ _ _ h => h) (by rfl) (fun w' hS' => by (try dsimp only at hS'); go_split_ands; go_simp; (try with_reducible rfl)) ?_
          simp only [Act.put, List.getElem_toArray, List.getElem_cons_succ, List.getElem_cons_zero, List.setIfInBounds_toArray, List.set_cons_zero, List.set_cons_succ]
          refine Turns.take hS 11 _ rfl (by kernel_rfl) (by kernel_rfl) (by kernel_rfl) (by kernel_rfl) (fun _ _ _ h => h) (by rfl) (fun w' hS' => by (try dsimp only at hS'); go_split_ands; go_simp; (try with_reducible rfl)) ?_
          simp only [Act.put, List.getElem_toArray, List.getElem_cons_succ, List.getElem_cons_zero, List.setIfInBounds_toArray, List.set_cons_zero, List.set_cons_succ]
          refine Turns.take hS 12 _ rfl (by kernel_rfl) (by kernel_rfl) (by kernel_rfl) (by kernel_rfl) (fun _ _ _ h => h) (by rfl) (fun w' hS' => by (try dsimp only at hS'); go_split_ands; go_simp; (try with_reducible rfl)) ?_
          simp only [Act.put, List.getElem_toArray, List.getElem_cons_succ, List.getElem_cons_zero, List.setIfInBounds_toArray, List.set_cons_zero, List.set_cons_succ]
          refine Turns.take hS 13 _ rfl (by kernel_rfl) (by kernel_rfl) (by kernel_rfl) (by kernel_rfl) (fun _ _ _ h => h) (by rfl) (fun w' hS' => by (try dsimp only at hS'); go_split_ands; go_simp; (try with_reducible rfl)) ?_
          simp only [Act.put, List.getElem_toArray, List.getElem_cons_succ, List.getElem_cons_zero, List.setIfInBounds_toArray, List.set_cons_zero, List.set_cons_succ]
          refine Turns.next 14 rfl (by kernel_rfl) (by rfl) (fun K hK => ?_)
          go_simp
          refine hsame.mono ?_
          rintro e w8 ⟨rfl, hb8⟩
          have HT8 := Lib.hid (HT5.out.onto hb8)
          refine hK.out _ _ (show (fun (w' : World) => w'.cell? ⟨gd, 1, none⟩ = some (.slice A4 l c4)) _ from (HD4.out.below hb8 HD4.out.lt).cell 1) ?_
          clear hK K hS
          have hS := (show (fun (w' : World) => w'.cell? ⟨gd, 1, none⟩ = some (.slice A4 l c4)) _ from (HD4.out.below hb8 HD4.out.lt).cell 1)
          refine Turns.take hS 15 _ rfl (by kernel_rfl) (by kernel_rfl) (by kernel_rfl) (by kernel_rfl) (fun _ _ _ h => h) (by rfl) (fun w' hS' => by (try dsimp only at hS'); go_split_ands; go_simp; (try with_reducible rfl)) ?_
          simp only [Act.put, List.getElem_toArray, List.getElem_cons_succ, List.getElem_cons_zero, List.setIfInBounds_toArray, List.set_cons_zero, List.set_cons_succ]
          refine Turns.take hS 16 _ rfl (by kernel_rfl) (by kernel_rfl) (by kernel_rfl) (by kernel_rfl) (fun _ _ _ h => h) (by rfl) (fun w' hS' => by (try dsimp only at hS'); go_split_ands; go_simp; (try with_reducible rfl)) ?_
          simp only [Act.put, List.getElem_toArray, List.getElem_cons_succ, List.getElem_cons_zero, List.setIfInBounds_toArray, List.set_cons_zero, List.set_cons_succ]
          refine Turns.rest (late_done (by kernel_rfl)) ?_
          refine any_tail 17 (by rfl) (by kernel_rfl) ?_
          simp only [List.drop_succ_cons, List.drop_zero]
          clear hS
          clear HT5 HT4 HD4 hlen4 hsame hc4 hb8 hbd
          go_wp2
          go_roundw
          case rel => exact ⟨k + 1, L4, by omega, by go_num, HT8.out⟩
          case measure => simp [intOf]; omega
        | y :: L, HT1 =>
          have hp := RI.pop_any _ _ _ _ _ _ _ HT1.out.ring
          have dyy : (y != y) = false := by simp
          go_upto_region 30 with (first
            | (go_at_call 10; (with_reducible refine hp.mono ?_); rintro e w5 ⟨rfl, hr5, hc5⟩; have HT5 := Lib.hid (HT1.out.stepR hr5 hc5); clear hr5 hc5; have hdp := RI.dpop_any _ _ _ _ _ _ HT5.out.doc h64 (Nat.lt_succ_self _))
            | (go_at_call 15; (with_reducible refine hdp.mono ?_); rintro e w4 ⟨rfl, hd4, hc4⟩; have HT4 := Lib.hid (HT5.out.stepD hd4 hc4); clear hd4 hc4))
          obtain ⟨L4, rfl⟩ : ∃ L4, L4 = L := ⟨_, rfl⟩
          clear HT5 HT1 HO hp hdp dyy
          have hbd : Below w4.heap.size w4 w4.drew := below_drewN (Below.refl _ _) 1
          obtain ⟨A4, c4, hd4, hr4⟩ := HT4.out.doc
          have hl64 : L4.length ≤ 64 := Nat.le_trans HT4.out.ring.len HT4.out.ring.fits.2
          have hlen4 := RI.len_any w4.drew _ _ _ _ L4 (HT4.out.ring.below hbd)
          have hsame := RI.same_any w4.drew (some ⟨z + 1, 0, none⟩) L4 A4 c4 hl64 (fun W hW => RI.list_any W _ _ _ _ L4 ((HT4.out.ring.below hbd).below hW)) (hr4.row.below hbd)
          have HD4 := Lib.hid (hd4.below hbd hd4.lt)
          have hc4 : w4.drew.cell? ⟨gd, 1, none⟩ = some (.slice A4 L4.length c4) := HD4.out.cell 1
          obtain ⟨l, hl⟩ : ∃ l, L4.length = l := ⟨_, rfl⟩
          rw [hl] at hlen4 hsame hc4 hl64 HD4
          have dne : ((l : Int) != (l : Int)) = false := by simp
          have HT5 := Lib.hid (HT4.out.onto hbd)
          clear hd4 hr4 hl
          refine region_turns (fun (w' : World) => w'.cell? ⟨gd, 1, none⟩ = some (.slice A4 l c4)) (fun j => decide (17 ≤ j)) (by kernel_rfl) (hc4) (fun hS => ?_)
          refine Turns.take hS 0 _ rfl (by kernel_rfl) (by kernel_rfl) (by kernel_rfl) (by kernel_rfl) (fun _ _ _ h => h) (by rfl) (fun w' hS' => by (try dsimp only at hS'); go_split_ands; go_simp; (try with_reducible rfl)) ?_
          simp only [Act.put, List.getElem_toArray, List.getElem_cons_succ, List.getElem_cons_zero, List.setIfInBounds_toArray, List.set_cons_zero, List.set_cons_succ]
          refine Turns.take hS 2 _ rfl (by kernel_rfl) (by kernel_rfl) (by kernel_rfl) (by kernel_rfl) (fun _ _ _ h => h) (by rfl) (fun w' hS' => by (try dsimp only at hS'); go_split_ands; go_simp; (try with_reducible rfl)) ?_
          simp only [Act.put, List.getElem_toArray, List.getElem_cons_succ, List.getElem_cons_zero, List.setIfInBounds_toArray, List.set_cons_zero, List.set_cons_succ]
          refine Turns.take hS 3 _ rfl (by kernel_rfl) (by kernel_rfl) (by kernel_rfl) (by kernel_rfl) (fun _ _ _ h => h) (by rfl) (fun w' hS' => by (try dsimp only at hS'); go_split_ands; go_simp; (try with_reducible rfl)) ?_
          simp only [Act.put, List.getElem_toArray, List.getElem_cons_succ, List.getElem_cons_zero, List.setIfInBounds_toArray, List.set_cons_zero, List.set_cons_succ]
          refine Turns.take hS 4 _ rfl (by kernel_rfl) (by kernel_rfl) (by kernel_rfl) (by kernel_rfl) (fun _ _ _ h => h) (by rfl) (fun w' hS' => by (try dsimp only at hS'); go_split_ands; go_simp; (try with_reducible rfl)) ?_
          simp only [Act.put, List.getElem_toArray, List.getElem_cons_succ, List.getElem_cons_zero, List.setIfInBounds_toArray, List.set_cons_zero, List.set_cons_succ]
          refine Turns.take hS 5 _ rfl (by kernel_rfl) (by kernel_rfl) (by kernel_rfl) (by kernel_rfl) (fun _ _ _ h => h) (by rfl) (fun w' hS' => by (try dsimp only at hS'); go_split_ands; go_simp; (try with_reducible rfl)) ?_
          simp only [Act.put, List.getElem_toArray, List.getElem_cons_succ, List.getElem_cons_zero, List.setIfInBounds_toArray, List.set_cons_zero, List.set_cons_succ]
          refine Turns.take hS 6 _ rfl (by kernel_rfl) (by kernel_rfl) (by kernel_rfl) (by kernel_rfl) (fun _ _ _ h => h) (by rfl) (fun w' hS' => by (try dsimp only at hS'); go_split_ands; go_simp; (try with_reducible rfl)) ?_
          simp only [Act.put, List.getElem_toArray, List.getElem_cons_succ, List.getElem_cons_zero, List.setIfInBounds_toArray, List.set_cons_zero, List.set_cons_succ]
          refine Turns.next 1 rfl (by kernel_rfl) (by rfl) (fun K hK => ?_)
          go_simp
          refine hlen4.mono ?_
          rintro e w' ⟨rfl, rfl⟩
          refine hK.out _ _ (show (fun (w' : World) => w'.cell? ⟨gd, 1, none⟩ = some (.slice A4 l c4)) _ from hc4) ?_
          clear hK K hS
          have hS := (show (fun (w' : World) => w'.cell? ⟨gd, 1, none⟩ = some (.slice A4 l c4)) _ from hc4)
          refine Turns.take hS 7 _ rfl (by kernel_rfl) (by kernel_rfl) (by kernel_rfl) (by kernel_rfl) (fun _ _ _ h => h) (by rfl) (fun w' hS' => by (try dsimp only at hS'); go_split_ands; go_simp; (try with_reducible rfl)) ?_
          simp only [Act.put, List.getElem_toArray, List.getElem_cons_succ, List.getElem_cons_zero, List.setIfInBounds_toArray, List.set_cons_zero, List.set_cons_succ]
          refine Turns.take hS 8 _ rfl (by kernel_rfl) (by kernel_rfl) (by kernel_rfl) (by kernel_rfl) (fun _ _ _ h => h) (by rfl) (fun w' hS' => by (try dsimp only at hS'); go_split_ands; go_simp; (try with_reducible rfl)) ?_
          simp only [Act.put, List.getElem_toArray, List.getElem_cons_succ, List.getElem_cons_zero, List.setIfInBounds_toArray, List.set_cons_zero, List.set_cons_succ]
          refine Turns.take hS 9 _ rfl (by kernel_rfl) (by kernel_rfl) (by kernel_rfl) (by kernel_rfl) (fun _ _ _ h => h) (by rfl) (fun w' hS' => by (try dsimp only at hS'); go_split_ands; go_simp; (try with_reducible rfl)) ?_
          simp only [Act.put, List.getElem_toArray, List.getElem_cons_succ, List.getElem_cons_zero, List.setIfInBounds_toArray, List.set_cons_zero, List.set_cons_succ]
          refine Turns.take hS 10 _ rfl (by kernel_rfl) (by kernel_rfl) (by kernel_rfl) (by kernel_rfl) (fun _ _ _ h => h) (by rfl) (fun w' hS' => by (try dsimp only at hS'); go_split_ands; go_simp; (try with_reducible rfl)) ?_
          simp only [Act.put, List.getElem_toArray, List.getElem_cons_succ, List.getElem_cons_zero, List.setIfInBounds_toArray, List.set_cons_zero, List.set_cons_succ]
          refine Turns.take hS 11 _ rfl (by kernel_rfl) (by kernel_rfl) (by kernel_rfl) (by kernel_rfl) (fun _ _ _ h => h) (by rfl) (fun w' hS' => by (try dsimp only at hS'); go_split_ands; go_simp; (try with_reducible rfl)) ?_
          simp only [Act.put, List.getElem_toArray, List.getElem_cons_succ, List.getElem_cons_zero, List.setIfInBounds_toArray, List.set_cons_zero, List.set_cons_succ]
          refine Turns.take hS 12 _ rfl (by kernel_rfl) (by kernel_rfl) (by kernel_rfl) (by kernel_rfl) (fun _ _ _ h => h) (by rfl) (fun w' hS' => by (try dsimp only at hS'); go_split_ands; go_simp; (try with_reducible rfl)) ?_
          simp only [Act.put, List.getElem_toArray, List.getElem_cons_succ, List.getElem_cons_zero, List.setIfInBounds_toArray, List.set_cons_zero, List.set_cons_succ]
          refine Turns.take hS 13 _ rfl (by kernel_rfl) (by kernel_rfl) (by kernel_rfl) (by kernel_rfl) (fun _ _ _ h => h) (by rfl) (fun w' hS' => by (try dsimp only at hS'); go_split_ands; go_simp; (try with_reducible rfl)) ?_
          simp only [Act.put, List.getElem_toArray, List.getElem_cons_succ, List.getElem_cons_zero, List.setIfInBounds_toArray, List.set_cons_zero, List.set_cons_succ]
          refine Turns.next 14 rfl (by kernel_rfl) (by rfl) (fun K hK => ?_)
          go_simp
          refine hsame.mono ?_
          rintro e w8 ⟨rfl, hb8⟩
          have HT8 := Lib.hid (HT5.out.onto hb8)
          refine hK.out _ _ (show (fun (w' : World) => w'.cell? ⟨gd, 1, none⟩ = some (.slice A4 l c4)) _ from (HD4.out.below hb8 HD4.out.lt).cell 1) ?_
          clear hK K hS
          have hS := (show (fun (w' : World) => w'.cell? ⟨gd, 1, none⟩ = some (.slice A4 l c4)) _ from (HD4.out.below hb8 HD4.out.lt).cell 1)
          refine Turns.take hS 15 _ rfl (by kernel_rfl) (by kernel_rfl) (by kernel_rfl) (by kernel_rfl) (fun _ _ _ h => h) (by rfl) (fun w' hS' => by (try dsimp only at hS'); go_split_ands; go_simp; (try with_reducible rfl)) ?_
          simp only [Act.put, List.getElem_toArray, List.getElem_cons_succ, List.getElem_cons_zero, List.setIfInBounds_toArray, List.set_cons_zero, List.set_cons_succ]
          refine Turns.take hS 16 _ rfl (by kernel_rfl) (by kernel_rfl) (by kernel_rfl) (by kernel_rfl) (fun _ _ _ h => h) (by rfl) (fun w' hS' => by (try dsimp only at hS'); go_split_ands; go_simp; (try with_reducible rfl)) ?_
          simp only [Act.put, List.getElem_toArray, List.getElem_cons_succ, List.getElem_cons_zero, List.setIfInBounds_toArray, List.set_cons_zero, List.set_cons_succ]
          refine Turns.rest (late_done (by kernel_rfl)) ?_
          refine any_tail 17 (by rfl) (by kernel_rfl) ?_
          simp only [List.drop_succ_cons, List.drop_zero]
          clear hS
          clear HT5 HT4 HD4 hlen4 hsame hc4 hb8 hbd
          go_wp2
          go_roundw
          case rel => exact ⟨k + 1, L4, by omega, by go_num, HT8.out⟩
          case measure => simp [intOf]; omega
      have k2 : (s0 == 2) = false := by simpa using hs
      clear hs
      by_cases hs : s0 = 3
      · have hst : s0 = 3 := hs
        subst hst
        have hcl := RI.clear_any _ _ _ _ _ _ HT1.out.ring
        go_upto_region 30 with (go_at_call 9; (with_reducible refine hcl.mono ?_); rintro e w5 ⟨rfl, hr5, hc5⟩; have HT5 := Lib.hid (HT1.out.stepR hr5 hc5); clear hr5 hc5; obtain ⟨A5, c5, hd5, _⟩ := HT5.out.doc; have cd5 := hd5.cell 1; have fd5 := hd5.soft 1; have HT6 := Lib.hid HT5.out.emptyD; clear hd5)
        obtain ⟨w4, hw4⟩ : ∃ w4, w5.setCell ⟨gd, 1, none⟩ (.slice none 0 0) = w4 := ⟨_, rfl⟩
        obtain ⟨L4, hL4⟩ : ∃ L4 : List Int, L4 = [] := ⟨_, rfl⟩
        have HT4 : Hid (Tied w z gd room L4 L4 w4) := by rw [← hw4, hL4]; exact HT6
        rw [hw4]
        clear hw4 HT6 HT5 HT1 HO hcl hL4 cd5 fd5
        have hbd : Below w4.heap.size w4 w4.drew := below_drewN (Below.refl _ _) 1
        obtain ⟨A4, c4, hd4, hr4⟩ := HT4.out.doc
        have hl64 : L4.length ≤ 64 := Nat.le_trans HT4.out.ring.len HT4.out.ring.fits.2
        have hlen4 := RI.len_any w4.drew _ _ _ _ L4 (HT4.out.ring.below hbd)
        have hsame := RI.same_any w4.drew (some ⟨z + 1, 0, none⟩) L4 A4 c4 hl64 (fun W hW => RI.list_any W _ _ _ _ L4 ((HT4.out.ring.below hbd).below hW)) (hr4.row.below hbd)
        have HD4 := Lib.hid (hd4.below hbd hd4.lt)
        have hc4 : w4.drew.cell? ⟨gd, 1, none⟩ = some (.slice A4 L4.length c4) := HD4.out.cell 1
        obtain ⟨l, hl⟩ : ∃ l, L4.length = l := ⟨_, rfl⟩
        rw [hl] at hlen4 hsame hc4 hl64 HD4
        have dne : ((l : Int) != (l : Int)) = false := by simp
        have HT5 := Lib.hid (HT4.out.onto hbd)
        clear hd4 hr4 hl
        refine region_turns (fun (w' : World) => w'.cell? ⟨gd, 1, none⟩ = some (.slice A4 l c4)) (fun j => decide (17 ≤ j)) (by kernel_rfl) (hc4) (fun hS => ?_)
        refine Turns.take hS 0 _ rfl (by kernel_rfl) (by kernel_rfl) (by kernel_rfl) (by kernel_rfl) (fun _ _ _ h => h) (by rfl) (fun w' hS' => by (try dsimp only at hS'); go_split_ands; go_simp; (try with_reducible rfl)) ?_
        simp only [Act.put, List.getElem_toArray, List.getElem_cons_succ, List.getElem_cons_zero, List.setIfInBounds_toArray, List.set_cons_zero, List.set_cons_succ]
        refine Turns.take hS 2 _ rfl (by kernel_rfl) (by kernel_rfl) (by kernel_rfl) (by kernel_rfl) (fun _ _ _ h => h) (by rfl) (fun w' hS' => by (try dsimp only at hS'); go_split_ands; go_simp; (try with_reducible rfl)) ?_
        simp only [Act.put, List.getElem_toArray, List.getElem_cons_succ, List.getElem_cons_zero, List.setIfInBounds_toArray, List.set_cons_zero, List.set_cons_succ]
        refine Turns.take hS 3 _ rfl (by kernel_rfl) (by kernel_rfl) (by kernel_rfl) (by kernel_rfl) (fun _ _ _ h => h) (by rfl) (fun w' hS' => by (try dsimp only at hS'); go_split_ands; go_simp; (try with_reducible rfl)) ?_
        simp only [Act.put, List.getElem_toArray, List.getElem_cons_succ, List.getElem_cons_zero, List.setIfInBounds_toArray, List.set_cons_zero, List.set_cons_succ]
        refine Turns.take hS 4 _ rfl (by kernel_rfl) (by kernel_rfl) (by kernel_rfl) (by kernel_rfl) (fun _ _ _ h => h) (by rfl) (fun w' hS' => by (try dsimp only at hS'); go_split_ands; go_simp; (try with_reducible rfl)) ?_
        simp only [Act.put, List.getElem_toArray, List.getElem_cons_succ, List.getElem_cons_zero, List.setIfInBounds_toArray, List.set_cons_zero, List.set_cons_succ]
        refine Turns.take hS 5 _ rfl (by kernel_rfl) (by kernel_rfl) (by kernel_rfl) (by kernel_rfl) (fun _ _ _ h => h) (by rfl) (fun w' hS' => by (try dsimp only at hS'); go_split_ands; go_simp; (try with_reducible rfl)) ?_
        simp only [Act.put, List.getElem_toArray, List.getElem_cons_succ, List.getElem_cons_zero, List.setIfInBounds_toArray, List.set_cons_zero, List.set_cons_succ]
        refine Turns.take hS 6 _ rfl (by kernel_rfl) (by kernel_rfl) (by kernel_rfl) (by kernel_rfl) (fun _ _ _ h => h) (by rfl) (fun w' hS' => by (try dsimp only at hS'); go_split_ands; go_simp; (try with_reducible rfl)) ?_
        simp only [Act.put, List.getElem_toArray, List.getElem_cons_succ, List.getElem_cons_zero, List.setIfInBounds_toArray, List.set_cons_zero, List.set_cons_succ]
        refine Turns.next 1 rfl (by kernel_rfl) (by rfl) (fun K hK => ?_)
        go_simp
        refine hlen4.mono ?_
        rintro e w' ⟨rfl, rfl⟩
        refine hK.out _ _ (show (fun (w' : World) => w'.cell? ⟨gd, 1, none⟩ = some (.slice A4 l c4)) _ from hc4) ?_
        clear hK K hS
        have hS := (show (fun (w' : World) => w'.cell? ⟨gd, 1, none⟩ = some (.slice A4 l c4)) _ from hc4)
        refine Turns.take hS 7 _ rfl (by kernel_rfl) (by kernel_rfl) (by kernel_rfl) (by kernel_rfl) (fun _ _ _ h => h) (by rfl) (fun w' hS' => by (try dsimp only at hS'); go_split_ands; go_simp; (try with_reducible rfl)) ?_
        simp only [Act.put, List.getElem_toArray, List.getElem_cons_succ, List.getElem_cons_zero, List.setIfInBounds_toArray, List.set_cons_zero, List.set_cons_succ]
        refine Turns.take hS 8 _ rfl (by kernel_rfl) (by kernel_rfl) (by kernel_rfl) (by kernel_rfl) (fun _ _ _ h => h) (by rfl) (fun w' hS' => by (try dsimp only at hS'); go_split_ands; go_simp; (try with_reducible rfl)) ?_
        simp only [Act.put, List.getElem_toArray, List.getElem_cons_succ, List.getElem_cons_zero, List.setIfInBounds_toArray, List.set_cons_zero, List.set_cons_succ]
        refine Turns.take hS 9 _ rfl (by kernel_rfl) (by kernel_rfl) (by kernel_rfl) (by kernel_rfl) (fun _ _ _ h => h) (by rfl) (fun w' hS' => by (try dsimp only at hS'); go_split_ands; go_simp; (try with_reducible rfl)) ?_
        simp only [Act.put, List.getElem_toArray, List.getElem_cons_succ, List.getElem_cons_zero, List.setIfInBounds_toArray, List.set_cons_zero, List.set_cons_succ]
        refine Turns.take hS 10 _ rfl (by kernel_rfl) (by kernel_rfl) (by kernel_rfl) (by kernel_rfl) (fun _ _ _ h => h) (by rfl) (fun w' hS' => by (try dsimp only at hS'); go_split_ands; go_simp; (try with_reducible rfl)) ?_
        simp only [Act.put, List.getElem_toArray, List.getElem_cons_succ, List.getElem_cons_zero, List.setIfInBounds_toArray, List.set_cons_zero, List.set_cons_succ]
        refine Turns.take hS 11 _ rfl (by kernel_rfl) (by kernel_rfl) (by kernel_rfl) (by kernel_rfl) (fun _ _ _ h => h) (by rfl) (fun w' hS' => by (try dsimp only at hS'); go_split_ands; go_simp; (try with_reducible rfl)) ?_
        simp only [Act.put, List.getElem_toArray, List.getElem_cons_succ, List.getElem_cons_zero, List.setIfInBounds_toArray, List.set_cons_zero, List.set_cons_succ]
        refine Turns.take hS 12 _ rfl (by kernel_rfl) (by kernel_rfl) (by kernel_rfl) (by kernel_rfl) (fun _ _ _ h => h) (by rfl) (fun w' hS' => by (try dsimp only at hS'); go_split_ands; go_simp; (try with_reducible rfl)) ?_
        simp only [Act.put, List.getElem_toArray, List.getElem_cons_succ, List.getElem_cons_zero, List.setIfInBounds_toArray, List.set_cons_zero, List.set_cons_succ]
        refine Turns.take hS 13 _ rfl (by kernel_rfl) (by kernel_rfl) (by kernel_rfl) (by kernel_rfl) (fun _ _ _ h => h) (by rfl) (fun w' hS' => by (try dsimp only at hS'); go_split_ands; go_simp; (try with_reducible rfl)) ?_
        simp only [Act.put, List.getElem_toArray, List.getElem_cons_succ, List.getElem_cons_zero, List.setIfInBounds_toArray, List.set_cons_zero, List.set_cons_succ]
        refine Turns.next 14 rfl (by kernel_rfl) (by rfl) (fun K hK => ?_)
        go_simp
        refine hsame.mono ?_
        rintro e w8 ⟨rfl, hb8⟩
        have HT8 := Lib.hid (HT5.out.onto hb8)
        refine hK.out _ _ (show (fun (w' : World) => w'.cell? ⟨gd, 1, none⟩ = some (.slice A4 l c4)) _ from (HD4.out.below hb8 HD4.out.lt).cell 1) ?_
        clear hK K hS
        have hS := (show (fun (w' : World) => w'.cell? ⟨gd, 1, none⟩ = some (.slice A4 l c4)) _ from (HD4.out.below hb8 HD4.out.lt).cell 1)
        refine Turns.take hS 15 _ rfl (by kernel_rfl) (by kernel_rfl) (by kernel_rfl) (by kernel_rfl) (fun _ _ _ h => h) (by rfl) (fun w' hS' => by (try dsimp only at hS'); go_split_ands; go_simp; (try with_reducible rfl)) ?_
        simp only [Act.put, List.getElem_toArray, List.getElem_cons_succ, List.getElem_cons_zero, List.setIfInBounds_toArray, List.set_cons_zero, List.set_cons_succ]
        refine Turns.take hS 16 _ rfl (by kernel_rfl) (by kernel_rfl) (by kernel_rfl) (by kernel_rfl) (fun _ _ _ h => h) (by rfl) (fun w' hS' => by (try dsimp only at hS'); go_split_ands; go_simp; (try with_reducible rfl)) ?_
        simp only [Act.put, List.getElem_toArray, List.getElem_cons_succ, List.getElem_cons_zero, List.setIfInBounds_toArray, List.set_cons_zero, List.set_cons_succ]
        refine Turns.rest (late_done (by kernel_rfl)) ?_
        refine any_tail 17 (by rfl) (by kernel_rfl) ?_
        simp only [List.drop_succ_cons, List.drop_zero]
        clear hS
        clear HT5 HT4 HD4 hlen4 hsame hc4 hb8 hbd
        go_wp2
        go_roundw
        case rel => exact ⟨k + 1, L4, by omega, by go_num, HT8.out⟩
        case measure => simp [intOf]; omega
      have k3 : (s0 == 3) = false := by simpa using hs
      clear hs
      go_upto_region 30 with fail
      obtain ⟨w4, hw4⟩ : ∃ w4, wr.alloc (.cells #[.int .i64 s0, .int .i64 s1] 38) = w4 := ⟨_, rfl⟩
      obtain ⟨L4, rfl⟩ : ∃ L4, L4 = L := ⟨_, rfl⟩
      rw [hw4] at HT1 ⊢
      have HT4 := HT1
      clear hw4 HT1 HO
      have hbd : Below w4.heap.size w4 w4.drew := below_drewN (Below.refl _ _) 1
      obtain ⟨A4, c4, hd4, hr4⟩ := HT4.out.doc
      have hl64 : L4.length ≤ 64 := Nat.le_trans HT4.out.ring.len HT4.out.ring.fits.2
      have hlen4 := RI.len_any w4.drew _ _ _ _ L4 (HT4.out.ring.below hbd)
      have hsame := RI.same_any w4.drew (some ⟨z + 1, 0, none⟩) L4 A4 c4 hl64 (fun W hW => RI.list_any W _ _ _ _ L4 ((HT4.out.ring.below hbd).below hW)) (hr4.row.below hbd)
      have HD4 := Lib.hid (hd4.below hbd hd4.lt)
      have hc4 : w4.drew.cell? ⟨gd, 1, none⟩ = some (.slice A4 L4.length c4) := HD4.out.cell 1
      obtain ⟨l, hl⟩ : ∃ l, L4.length = l := ⟨_, rfl⟩
      rw [hl] at hlen4 hsame hc4 hl64 HD4
      have dne : ((l : Int) != (l : Int)) = false := by simp
      have HT5 := Lib.hid (HT4.out.onto hbd)
      clear hd4 hr4 hl
      refine region_turns (fun (w' : World) => w'.cell? ⟨gd, 1, none⟩ = some (.slice A4 l c4)) (fun j => decide (17 ≤ j)) (by kernel_rfl) (hc4) (fun hS => ?_)
      refine Turns.take hS 0 _ rfl (by kernel_rfl) (by kernel_rfl) (by kernel_rfl) (by kernel_rfl) (fun _ _ _ h => h) (by rfl) (fun w' hS' => by (try dsimp only at hS'); go_split_ands; go_simp; (try with_reducible rfl)) ?_
      simp only [Act.put, List.getElem_toArray, List.getElem_cons_succ, List.getElem_cons_zero, List.setIfInBounds_toArray, List.set_cons_zero, List.set_cons_succ]
      refine Turns.take hS 2 _ rfl (by kernel_rfl) (by kernel_rfl) (by kernel_rfl) (by kernel_rfl) (fun _ _ _ h => h) (by rfl) (fun w' hS' => by (try dsimp only at hS'); go_split_ands; go_simp; (try with_reducible rfl)) ?_
      simp only [Act.put, List.getElem_toArray, List.getElem_cons_succ, List.getElem_cons_zero, List.setIfInBounds_toArray, List.set_cons_zero, List.set_cons_succ]
      refine Turns.take hS 3 _ rfl (by kernel_rfl) (by kernel_rfl) (by kernel_rfl) (by kernel_rfl) (fun _ _ _ h => h) (by rfl) (fun w' hS' => by (try dsimp only at hS'); go_split_ands; go_simp; (try with_reducible rfl)) ?_
      simp only [Act.put, List.getElem_toArray, List.getElem_cons_succ, List.getElem_cons_zero, List.setIfInBounds_toArray, List.set_cons_zero, List.set_cons_succ]
      refine Turns.take hS 4 _ rfl (by kernel_rfl) (by kernel_rfl) (by kernel_rfl) (by kernel_rfl) (fun _ _ _ h => h) (by rfl) (fun w' hS' => by (try dsimp only at hS'); go_split_ands; go_simp; (try with_reducible rfl)) ?_
      simp only [Act.put, List.getElem_toArray, List.getElem_cons_succ, List.getElem_cons_zero, List.setIfInBounds_toArray, List.set_cons_zero, List.set_cons_succ]
      refine Turns.take hS 5 _ rfl (by kernel_rfl) (by kernel_rfl) (by kernel_rfl) (by kernel_rfl) (fun _ _ _ h => h) (by rfl) (fun w' hS' => by (try dsimp only at hS'); go_split_ands; go_simp; (try with_reducible rfl)) ?_
      simp only [Act.put, List.getElem_toArray, List.getElem_cons_succ, List.getElem_cons_zero, List.setIfInBounds_toArray, List.set_cons_zero, List.set_cons_succ]
      refine Turns.take hS 6 _ rfl (by kernel_rfl) (by kernel_rfl) (by kernel_rfl) (by kernel_rfl) (fun _ _ _ h => h) (by rfl) (fun w' hS' => by (try dsimp only at hS'); go_split_ands; go_simp; (try with_reducible rfl)) ?_
      simp only [Act.put, List.getElem_toArray, List.getElem_cons_succ, List.getElem_cons_zero, List.setIfInBounds_toArray, List.set_cons_zero, List.set_cons_succ]
      refine Turns.next 1 rfl (by kernel_rfl) (by rfl) (fun K hK => ?_)
      go_simp
      refine hlen4.mono ?_
      rintro e w' ⟨rfl, rfl⟩
      refine hK.out _ _ (show (fun (w' : World) => w'.cell? ⟨gd, 1, none⟩ = some (.slice A4 l c4)) _ from hc4) ?_
      clear hK K hS
      have hS := (show (fun (w' : World) => w'.cell? ⟨gd, 1, none⟩ = some (.slice A4 l c4)) _ from hc4)
      refine Turns.take hS 7 _ rfl (by kernel_rfl) (by kernel_rfl) (by kernel_rfl) (by kernel_rfl) (fun _ _ _ h => h) (by rfl) (fun w' hS' => by (try dsimp only at hS'); go_split_ands; go_simp; (try with_reducible rfl)) ?_
      simp only [Act.put, List.getElem_toArray, List.getElem_cons_succ, List.getElem_cons_zero, List.setIfInBounds_toArray, List.set_cons_zero, List.set_cons_succ]
      refine Turns.take hS 8 _ rfl (by kernel_rfl) (by kernel_rfl) (by kernel_rfl) (by kernel_rfl) (fun _ _ _ h => h) (by rfl) (fun w' hS' => by (try dsimp only at hS'); go_split_ands; go_simp; (try with_reducible rfl)) ?_
      simp only [Act.put, List.getElem_toArray, List.getElem_cons_succ, List.getElem_cons_zero, List.setIfInBounds_toArray, List.set_cons_zero, List.set_cons_succ]
      refine Turns.take hS 9 _ rfl (by kernel_rfl) (by kernel_rfl) (by kernel_rfl) (by kernel_rfl) (fun _ _ _ h => h) (by rfl) (fun w' hS' => by (try dsimp only at hS'); go_split_ands; go_simp; (try with_reducible rfl)) ?_
      simp only [Act.put, List.getElem_toArray, List.getElem_cons_succ, List.getElem_cons_zero, List.setIfInBounds_toArray, List.set_cons_zero, List.set_cons_succ]
      refine Turns.take hS 10 _ rfl (by kernel_rfl) (by kernel_rfl) (by kernel_rfl) (by kernel_rfl) (fun _ _ _ h => h) (by rfl) (fun w' hS' => by (try dsimp only at hS'); go_split_ands; go_simp; (try with_reducible rfl)) ?_
      simp only [Act.put, List.getElem_toArray, List.getElem_cons_succ, List.getElem_cons_zero, List.setIfInBounds_toArray, List.set_cons_zero, List.set_cons_succ]
      refine Turns.take hS 11 _ rfl (by kernel_rfl) (by kernel_rfl) (by kernel_rfl) (by kernel_rfl) (fun _ _ _ h => h) (by rfl) (fun w' hS' => by (try dsimp only at hS'); go_split_ands; go_simp; (try with_reducible rfl)) ?_
      simp only [Act.put, List.getElem_toArray, List.getElem_cons_succ, List.getElem_cons_zero, List.setIfInBounds_toArray, List.set_cons_zero, List.set_cons_succ]
      refine Turns.take hS 12 _ rfl (by kernel_rfl) (by kernel_rfl) (by kernel_rfl) (by kernel_rfl) (fun _ _ _ h => h) (by rfl) (fun w' hS' => by (try dsimp only at hS'); go_split_ands; go_simp; (try with_reducible rfl)) ?_
      simp only [Act.put, List.getElem_toArray, List.getElem_cons_succ, List.getElem_cons_zero, List.setIfInBounds_toArray, List.set_cons_zero, List.set_cons_succ]
      refine Turns.take hS 13 _ rfl (by kernel_rfl) (by kernel_rfl) (by kernel_rfl) (by kernel_rfl) (fun _ _ _ h => h) (by rfl) (fun w' hS' => by (try dsimp only at hS'); go_split_ands; go_simp; (try with_reducible rfl)) ?_
      simp only [Act.put, List.getElem_toArray, List.getElem_cons_succ, List.getElem_cons_zero, List.setIfInBounds_toArray, List.set_cons_zero, List.set_cons_succ]
      refine Turns.next 14 rfl (by kernel_rfl) (by rfl) (fun K hK => ?_)
      go_simp
      refine hsame.mono ?_
      rintro e w8 ⟨rfl, hb8⟩
      have HT8 := Lib.hid (HT5.out.onto hb8)
      refine hK.out _ _ (show (fun (w' : World) => w'.cell? ⟨gd, 1, none⟩ = some (.slice A4 l c4)) _ from (HD4.out.below hb8 HD4.out.lt).cell 1) ?_
      clear hK K hS
      have hS := (show (fun (w' : World) => w'.cell? ⟨gd, 1, none⟩ = some (.slice A4 l c4)) _ from (HD4.out.below hb8 HD4.out.lt).cell 1)
      refine Turns.take hS 15 _ rfl (by kernel_rfl) (by kernel_rfl) (by kernel_rfl) (by kernel_rfl) (fun _ _ _ h => h) (by rfl) (fun w' hS' => by (try dsimp only at hS'); go_split_ands; go_simp; (try with_reducible rfl)) ?_
      simp only [Act.put, List.getElem_toArray, List.getElem_cons_succ, List.getElem_cons_zero, List.setIfInBounds_toArray, List.set_cons_zero, List.set_cons_succ]
      refine Turns.take hS 16 _ rfl (by kernel_rfl) (by kernel_rfl) (by kernel_rfl) (by kernel_rfl) (fun _ _ _ h => h) (by rfl) (fun w' hS' => by (try dsimp only at hS'); go_split_ands; go_simp; (try with_reducible rfl)) ?_
      simp only [Act.put, List.getElem_toArray, List.getElem_cons_succ, List.getElem_cons_zero, List.setIfInBounds_toArray, List.set_cons_zero, List.set_cons_succ]
      refine Turns.rest (late_done (by kernel_rfl)) ?_
      refine any_tail 17 (by rfl) (by kernel_rfl) ?_
      simp only [List.drop_succ_cons, List.drop_zero]
      clear hS
      clear HT5 HT4 HD4 hlen4 hsame hc4 hb8 hbd
      go_wp2
      go_roundw
      case rel => exact ⟨k + 1, L4, by omega, by go_num, HT8.out⟩
      case measure => simp [intOf]; omega
    · have hend := HT.out.below
      by_cases hst : a2 < 1
      · have dst : decide (a2 < 1) = true := decide_eq_true hst
        go_upto_region 33 with fail
        have hbw : Below w.heap.size w wr.drew := below_drewN HT.out.below 1
        refine region_turns (fun (w' : World) => True) (fun j => decide (16 ≤ j)) (by kernel_rfl) (trivial) (fun hS => ?_)
        refine Turns.take hS 0 _ rfl (by kernel_rfl) (by kernel_rfl) (by kernel_rfl) (by kernel_rfl) (fun _ _ _ h => h) (by rfl) (fun w' hS' => by (try dsimp only at hS'); go_split_ands; go_simp; (try with_reducible rfl)) ?_
        simp only [Act.put, List.getElem_toArray, List.getElem_cons_succ, List.getElem_cons_zero, List.setIfInBounds_toArray, List.set_cons_zero, List.set_cons_succ]
        refine Turns.take hS 1 _ rfl (by kernel_rfl) (by kernel_rfl) (by kernel_rfl) (by kernel_rfl) (fun _ _ _ h => h) (by rfl) (fun w' hS' => by (try dsimp only at hS'); go_split_ands; go_simp; (try with_reducible rfl)) ?_
        simp only [Act.put, List.getElem_toArray, List.getElem_cons_succ, List.getElem_cons_zero, List.setIfInBounds_toArray, List.set_cons_zero, List.set_cons_succ]
        refine Turns.take hS 2 _ rfl (by kernel_rfl) (by kernel_rfl) (by kernel_rfl) (by kernel_rfl) (fun _ _ _ h => h) (by rfl) (fun w' hS' => by (try dsimp only at hS'); go_split_ands; go_simp; (try with_reducible rfl)) ?_
        simp only [Act.put, List.getElem_toArray, List.getElem_cons_succ, List.getElem_cons_zero, List.setIfInBounds_toArray, List.set_cons_zero, List.set_cons_succ]
        refine Turns.skip hS 3 rfl (by kernel_rfl) (by kernel_rfl) (by kernel_rfl) (by kernel_rfl) (fun _ _ _ h => h) (by rfl) ?_
        simp only [Act.put, List.getElem_toArray, List.getElem_cons_succ, List.getElem_cons_zero, List.setIfInBounds_toArray, List.set_cons_zero, List.set_cons_succ]
        refine Turns.skip hS 4 rfl (by kernel_rfl) (by kernel_rfl) (by kernel_rfl) (by kernel_rfl) (fun _ _ _ h => h) (by rfl) ?_
        simp only [Act.put, List.getElem_toArray, List.getElem_cons_succ, List.getElem_cons_zero, List.setIfInBounds_toArray, List.set_cons_zero, List.set_cons_succ]
        refine Turns.skip hS 5 rfl (by kernel_rfl) (by kernel_rfl) (by kernel_rfl) (by kernel_rfl) (fun _ _ _ h => h) (by rfl) ?_
        simp only [Act.put, List.getElem_toArray, List.getElem_cons_succ, List.getElem_cons_zero, List.setIfInBounds_toArray, List.set_cons_zero, List.set_cons_succ]
        refine Turns.skip hS 6 rfl (by kernel_rfl) (by kernel_rfl) (by kernel_rfl) (by kernel_rfl) (fun _ _ _ h => h) (by rfl) ?_
        simp only [Act.put, List.getElem_toArray, List.getElem_cons_succ, List.getElem_cons_zero, List.setIfInBounds_toArray, List.set_cons_zero, List.set_cons_succ]
        refine Turns.skip hS 7 rfl (by kernel_rfl) (by kernel_rfl) (by kernel_rfl) (by kernel_rfl) (fun _ _ _ h => h) (by rfl) ?_
        simp only [Act.put, List.getElem_toArray, List.getElem_cons_succ, List.getElem_cons_zero, List.setIfInBounds_toArray, List.set_cons_zero, List.set_cons_succ]
        refine Turns.skip hS 8 rfl (by kernel_rfl) (by kernel_rfl) (by kernel_rfl) (by kernel_rfl) (fun _ _ _ h => h) (by rfl) ?_
        simp only [Act.put, List.getElem_toArray, List.getElem_cons_succ, List.getElem_cons_zero, List.setIfInBounds_toArray, List.set_cons_zero, List.set_cons_succ]
        refine Turns.skip hS 9 rfl (by kernel_rfl) (by kernel_rfl) (by kernel_rfl) (by kernel_rfl) (fun _ _ _ h => h) (by rfl) ?_
        simp only [Act.put, List.getElem_toArray, List.getElem_cons_succ, List.getElem_cons_zero, List.setIfInBounds_toArray, List.set_cons_zero, List.set_cons_succ]
        refine Turns.skip hS 10 rfl (by kernel_rfl) (by kernel_rfl) (by kernel_rfl) (by kernel_rfl) (fun _ _ _ h => h) (by rfl) ?_
        simp only [Act.put, List.getElem_toArray, List.getElem_cons_succ, List.getElem_cons_zero, List.setIfInBounds_toArray, List.set_cons_zero, List.set_cons_succ]
        refine Turns.skip hS 11 rfl (by kernel_rfl) (by kernel_rfl) (by kernel_rfl) (by kernel_rfl) (fun _ _ _ h => h) (by rfl) ?_
        simp only [Act.put, List.getElem_toArray, List.getElem_cons_succ, List.getElem_cons_zero, List.setIfInBounds_toArray, List.set_cons_zero, List.set_cons_succ]
        refine Turns.skip hS 12 rfl (by kernel_rfl) (by kernel_rfl) (by kernel_rfl) (by kernel_rfl) (fun _ _ _ h => h) (by rfl) ?_
        simp only [Act.put, List.getElem_toArray, List.getElem_cons_succ, List.getElem_cons_zero, List.setIfInBounds_toArray, List.set_cons_zero, List.set_cons_succ]
        refine Turns.skip hS 13 rfl (by kernel_rfl) (by kernel_rfl) (by kernel_rfl) (by kernel_rfl) (fun _ _ _ h => h) (by rfl) ?_
        simp only [Act.put, List.getElem_toArray, List.getElem_cons_succ, List.getElem_cons_zero, List.setIfInBounds_toArray, List.set_cons_zero, List.set_cons_succ]
        refine Turns.take hS 14 _ rfl (by kernel_rfl) (by kernel_rfl) (by kernel_rfl) (by kernel_rfl) (fun _ _ _ h => h) (by rfl) (fun w' hS' => by (try dsimp only at hS'); go_split_ands; go_simp; (try with_reducible rfl)) ?_
        simp only [Act.put, List.getElem_toArray, List.getElem_cons_succ, List.getElem_cons_zero, List.setIfInBounds_toArray, List.set_cons_zero, List.set_cons_succ]
        refine Turns.take hS 15 _ rfl (by kernel_rfl) (by kernel_rfl) (by kernel_rfl) (by kernel_rfl) (fun _ _ _ h => h) (by rfl) (fun w' hS' => by (try dsimp only at hS'); go_split_ands; go_simp; (try with_reducible rfl)) ?_
        simp only [Act.put, List.getElem_toArray, List.getElem_cons_succ, List.getElem_cons_zero, List.setIfInBounds_toArray, List.set_cons_zero, List.set_cons_succ]
        refine Turns.rest (late_done (by kernel_rfl)) ?_
        refine any_tail 16 (by rfl) (by kernel_rfl) ?_
        simp only [List.drop_succ_cons, List.drop_zero]
        clear hS
        go_wp2
        go_ret
        exact ⟨rfl, hbw⟩
      · have dst : decide (a2 < 1) = false := decide_eq_false hst
        have hbd : Below wr.heap.size wr wr.drew := below_drewN (Below.refl _ _) 1
        obtain ⟨A4, c4, hd4, hr4⟩ := HT.out.doc
        have hl64 : L.length ≤ 64 := Nat.le_trans HT.out.ring.len HT.out.ring.fits.2
        have hfirst := RI.first_any wr.drew (some ⟨z + 1, 0, none⟩) L a2 hl64 (by omega) (fun W hW => RI.list_any W _ _ _ _ L ((HT.out.ring.below hbd).below hW))
        have HD4 := Lib.hid (hd4.below hbd hd4.lt)
        have hc4 : wr.drew.cell? ⟨gd, 1, none⟩ = some (.slice A4 L.length c4) := HD4.out.cell 1
        have hmin := fun W => run_min2 a2 (L.length : Int) W
        obtain ⟨V, hV⟩ : ∃ V : Int, (if (L.length : Int) < a2 then (L.length : Int) else a2) = V := ⟨_, rfl⟩
        rw [hV] at hfirst
        simp only [hV] at hmin
        obtain ⟨l, hl⟩ : ∃ l, L.length = l := ⟨_, rfl⟩
        rw [hl] at hc4 HD4
        simp only [hl] at hmin
        have dvv : (V == V) = true := by simp
        have HBd := Lib.hid (HT.out.below.trans (hbd.mono HT.out.below.size))
        have hsz := HBd.out.size
        clear hd4 hr4 hV hl hl64 hend hk
        go_upto_region 33 with fail
        refine region_turns (fun (w' : World) => w'.cell? ⟨gd, 1, none⟩ = some (.slice A4 l c4)) (fun j => decide (16 ≤ j)) (by kernel_rfl) (hc4) (fun hS => ?_)
        refine Turns.take hS 0 _ rfl (by kernel_rfl) (by kernel_rfl) (by kernel_rfl) (by kernel_rfl) (fun _ _ _ h => h) (by rfl) (fun w' hS' => by (try dsimp only at hS'); go_split_ands; go_simp; (try with_reducible rfl)) ?_
        simp only [Act.put, List.getElem_toArray, List.getElem_cons_succ, List.getElem_cons_zero, List.setIfInBounds_toArray, List.set_cons_zero, List.set_cons_succ]
        refine Turns.take hS 1 _ rfl (by kernel_rfl) (by kernel_rfl) (by kernel_rfl) (by kernel_rfl) (fun _ _ _ h => h) (by rfl) (fun w' hS' => by (try dsimp only at hS'); go_split_ands; go_simp; (try with_reducible rfl)) ?_
        simp only [Act.put, List.getElem_toArray, List.getElem_cons_succ, List.getElem_cons_zero, List.setIfInBounds_toArray, List.set_cons_zero, List.set_cons_succ]
        refine Turns.take hS 2 _ rfl (by kernel_rfl) (by kernel_rfl) (by kernel_rfl) (by kernel_rfl) (fun _ _ _ h => h) (by rfl) (fun w' hS' => by (try dsimp only at hS'); go_split_ands; go_simp; (try with_reducible rfl)) ?_
        simp only [Act.put, List.getElem_toArray, List.getElem_cons_succ, List.getElem_cons_zero, List.setIfInBounds_toArray, List.set_cons_zero, List.set_cons_succ]
        refine Turns.take hS 3 _ rfl (by kernel_rfl) (by kernel_rfl) (by kernel_rfl) (by kernel_rfl) (fun _ _ _ h => h) (by rfl) (fun w' hS' => by (try dsimp only at hS'); go_split_ands; go_simp; (try with_reducible rfl)) ?_
        simp only [Act.put, List.getElem_toArray, List.getElem_cons_succ, List.getElem_cons_zero, List.setIfInBounds_toArray, List.set_cons_zero, List.set_cons_succ]
        refine Turns.take hS 4 _ rfl (by kernel_rfl) (by kernel_rfl) (by kernel_rfl) (by kernel_rfl) (fun _ _ _ h => h) (by rfl) (fun w' hS' => by (try dsimp only at hS'); go_split_ands; go_simp; (try with_reducible rfl)) ?_
        simp only [Act.put, List.getElem_toArray, List.getElem_cons_succ, List.getElem_cons_zero, List.setIfInBounds_toArray, List.set_cons_zero, List.set_cons_succ]
        refine Turns.take hS 6 _ rfl (by kernel_rfl) (by kernel_rfl) (by kernel_rfl) (by kernel_rfl) (fun _ _ _ h => h) (by rfl) (fun w' hS' => by (try dsimp only at hS'); go_split_ands; go_simp; (try with_reducible rfl)) ?_
        simp only [Act.put, List.getElem_toArray, List.getElem_cons_succ, List.getElem_cons_zero, List.setIfInBounds_toArray, List.set_cons_zero, List.set_cons_succ]
        refine Turns.take hS 7 _ rfl (by kernel_rfl) (by kernel_rfl) (by kernel_rfl) (by kernel_rfl) (fun _ _ _ h => h) (by rfl) (fun w' hS' => by (try dsimp only at hS'); go_split_ands; go_simp; (try with_reducible rfl)) ?_
        simp only [Act.put, List.getElem_toArray, List.getElem_cons_succ, List.getElem_cons_zero, List.setIfInBounds_toArray, List.set_cons_zero, List.set_cons_succ]
        refine Turns.take hS 8 _ rfl (by kernel_rfl) (by kernel_rfl) (by kernel_rfl) (by kernel_rfl) (fun _ _ _ h => h) (by rfl) (fun w' hS' => by (try dsimp only at hS'); go_split_ands; go_simp; (try with_reducible rfl)) ?_
        simp only [Act.put, List.getElem_toArray, List.getElem_cons_succ, List.getElem_cons_zero, List.setIfInBounds_toArray, List.set_cons_zero, List.set_cons_succ]
        refine Turns.take hS 9 _ rfl (by kernel_rfl) (by kernel_rfl) (by kernel_rfl) (by kernel_rfl) (fun _ _ _ h => h) (by rfl) (fun w' hS' => by (try dsimp only at hS'); go_split_ands; go_simp; (try with_reducible rfl)) ?_
        simp only [Act.put, List.getElem_toArray, List.getElem_cons_succ, List.getElem_cons_zero, List.setIfInBounds_toArray, List.set_cons_zero, List.set_cons_succ]
        refine Turns.take hS 10 _ rfl (by kernel_rfl) (by kernel_rfl) (by kernel_rfl) (by kernel_rfl) (fun _ _ _ h => h) (by rfl) (fun w' hS' => by (try dsimp only at hS'); go_split_ands; go_simp; (try with_reducible rfl)) ?_
        simp only [Act.put, List.getElem_toArray, List.getElem_cons_succ, List.getElem_cons_zero, List.setIfInBounds_toArray, List.set_cons_zero, List.set_cons_succ]
        refine Turns.take hS 11 _ rfl (by kernel_rfl) (by kernel_rfl) (by kernel_rfl) (by kernel_rfl) (fun _ _ _ h => h) (by rfl) (fun w' hS' => by (try dsimp only at hS'); go_split_ands; go_simp; (try with_reducible rfl)) ?_
        simp only [Act.put, List.getElem_toArray, List.getElem_cons_succ, List.getElem_cons_zero, List.setIfInBounds_toArray, List.set_cons_zero, List.set_cons_succ]
        refine Turns.either 5 12 rfl rfl (by kernel_rfl) (by rfl) (by rfl) (fun K hK => ?_) (fun K hK => ?_)
        · go_simp
          refine hfirst.mono ?_
          rintro e w8 ⟨rfl, hb8⟩
          have HB8 := Lib.hid (HBd.out.trans (hb8.mono hsz))
          have hc8 := (HD4.out.below hb8 HD4.out.lt).cell 1
          refine hK.out _ _ (show (fun (w' : World) => w'.cell? ⟨gd, 1, none⟩ = some (.slice A4 l c4)) _ from hc8) ?_
          clear hK K hS
          have hS := (show (fun (w' : World) => w'.cell? ⟨gd, 1, none⟩ = some (.slice A4 l c4)) _ from hc8)
          refine Turns.next 12 rfl (by kernel_rfl) (by rfl) (fun K hK => ?_)
          go_simp
          refine hK.out _ _ (show (fun (w' : World) => w'.cell? ⟨gd, 1, none⟩ = some (.slice A4 l c4)) _ from hc8) ?_
          clear hK K hS
          have hS := (show (fun (w' : World) => w'.cell? ⟨gd, 1, none⟩ = some (.slice A4 l c4)) _ from hc8)
          refine Turns.take hS 13 _ rfl (by kernel_rfl) (by kernel_rfl) (by kernel_rfl) (by kernel_rfl) (fun _ _ _ h => h) (by rfl) (fun w' hS' => by (try dsimp only at hS'); go_split_ands; go_simp; (try with_reducible rfl)) ?_
          simp only [Act.put, List.getElem_toArray, List.getElem_cons_succ, List.getElem_cons_zero, List.setIfInBounds_toArray, List.set_cons_zero, List.set_cons_succ]
          refine Turns.take hS 14 _ rfl (by kernel_rfl) (by kernel_rfl) (by kernel_rfl) (by kernel_rfl) (fun _ _ _ h => h) (by rfl) (fun w' hS' => by (try dsimp only at hS'); go_split_ands; go_simp; (try with_reducible rfl)) ?_
          simp only [Act.put, List.getElem_toArray, List.getElem_cons_succ, List.getElem_cons_zero, List.setIfInBounds_toArray, List.set_cons_zero, List.set_cons_succ]
          refine Turns.take hS 15 _ rfl (by kernel_rfl) (by kernel_rfl) (by kernel_rfl) (by kernel_rfl) (fun _ _ _ h => h) (by rfl) (fun w' hS' => by (try dsimp only at hS'); go_split_ands; go_simp; (try with_reducible rfl)) ?_
          simp only [Act.put, List.getElem_toArray, List.getElem_cons_succ, List.getElem_cons_zero, List.setIfInBounds_toArray, List.set_cons_zero, List.set_cons_succ]
          refine Turns.rest (late_done (by kernel_rfl)) ?_
          refine any_tail 16 (by rfl) (by kernel_rfl) ?_
          simp only [List.drop_succ_cons, List.drop_zero]
          clear hS
          go_wp2
          go_ret
          exact ⟨rfl, HB8.out⟩
        · go_simp
          refine hK.out _ _ (show (fun (w' : World) => w'.cell? ⟨gd, 1, none⟩ = some (.slice A4 l c4)) _ from hc4) ?_
          clear hK K hS
          have hS := (show (fun (w' : World) => w'.cell? ⟨gd, 1, none⟩ = some (.slice A4 l c4)) _ from hc4)
          refine Turns.next 5 rfl (by kernel_rfl) (by rfl) (fun K hK => ?_)
          go_simp
          refine hfirst.mono ?_
          rintro e w8 ⟨rfl, hb8⟩
          have HB8 := Lib.hid (HBd.out.trans (hb8.mono hsz))
          have hc8 := (HD4.out.below hb8 HD4.out.lt).cell 1
          refine hK.out _ _ (show (fun (w' : World) => w'.cell? ⟨gd, 1, none⟩ = some (.slice A4 l c4)) _ from hc8) ?_
          clear hK K hS
          have hS := (show (fun (w' : World) => w'.cell? ⟨gd, 1, none⟩ = some (.slice A4 l c4)) _ from hc8)
          refine Turns.take hS 13 _ rfl (by kernel_rfl) (by kernel_rfl) (by kernel_rfl) (by kernel_rfl) (fun _ _ _ h => h) (by rfl) (fun w' hS' => by (try dsimp only at hS'); go_split_ands; go_simp; (try with_reducible rfl)) ?_
          simp only [Act.put, List.getElem_toArray, List.getElem_cons_succ, List.getElem_cons_zero, List.setIfInBounds_toArray, List.set_cons_zero, List.set_cons_succ]
          refine Turns.take hS 14 _ rfl (by kernel_rfl) (by kernel_rfl) (by kernel_rfl) (by kernel_rfl) (fun _ _ _ h => h) (by rfl) (fun w' hS' => by (try dsimp only at hS'); go_split_ands; go_simp; (try with_reducible rfl)) ?_
          simp only [Act.put, List.getElem_toArray, List.getElem_cons_succ, List.getElem_cons_zero, List.setIfInBounds_toArray, List.set_cons_zero, List.set_cons_succ]
          refine Turns.take hS 15 _ rfl (by kernel_rfl) (by kernel_rfl) (by kernel_rfl) (by kernel_rfl) (fun _ _ _ h => h) (by rfl) (fun w' hS' => by (try dsimp only at hS'); go_split_ands; go_simp; (try with_reducible rfl)) ?_
          simp only [Act.put, List.getElem_toArray, List.getElem_cons_succ, List.getElem_cons_zero, List.setIfInBounds_toArray, List.set_cons_zero, List.set_cons_succ]
          refine Turns.rest (late_done (by kernel_rfl)) ?_
          refine any_tail 16 (by rfl) (by kernel_rfl) ?_
          simp only [List.drop_succ_cons, List.drop_zero]
          clear hS
          go_wp2
          go_ret
          exact ⟨rfl, HB8.out⟩

set_option maxRecDepth 100000 in
theorem lifted (os : Os) (started : os.Started) (H : Type) (enc : TypeId × Value → H) :
    ReturnsInHanded {} Try.checked os 3 .any (Rows.ringDoesSpec.pre6 enc Try.prog Try.f3 Rows.ringDoesRow.domain false) (Rows.ringDoesSpec.post enc Try.prog Try.f3 false true false false) := by
  refine returnsInHanded_of_change (C := Try.checked) own started (by kernel_rfl) Try.func3
    (ChangeSpec.witness6 (enc := enc) (C := Try.checked) false ⟨#[], #[.int .i64 0, .slice none 0 0, .int .i64 0], []⟩ 8 (by kernel_rfl) (by kernel_rfl) (by kernel_rfl) (by kernel_rfl)) ?_
  intro W base args ds gs before hval0 hW hcnd _
  have hval : ∀ (j : Nat) t v, Try.f3.params[j]? = some t → args[j]? = some v → Value.okWide Try.prog W .any base t v := hval0
  have hW' := hW
  obtain ⟨p, q, hA0, hV, rfl, hfz, hnd⟩ := hW
  have hA : DataW.TrodAll enc Try.prog W 0 (fun _ => true) true Try.f3.params.toList args.toList ds p := hA0
  have hAk := hA
  rw [Try.params3] at hA hval
  obtain ⟨v0, vs0, d0, ds0, p0, q0, hargs, rfl, hp, h0, r0⟩ := trodAll_cons hA
  obtain ⟨v1, vs1, d1, ds1, p1, q1, rfl, rfl, rfl, h1, r1⟩ := trodAll_cons r0
  obtain ⟨v2, vs2, d2, ds2, p2, q2, rfl, rfl, rfl, h2, r2⟩ := trodAll_cons r1
  obtain ⟨rfl, rfl, rfl⟩ := trodAll_nil r2
  obtain rfl : args = #[v0, v1, v2] := by cases args; simp_all
  obtain ⟨rfl, rfl⟩ := trodVars_none hV
  clear hA0 hval0 hargs
  simp only [List.append_nil] at hW'
  have hend : ∀ W' : World, Below W.heap.size W W' → Rows.ringDoesSpec.post enc Try.prog Try.f3 false true false false W #[v0, v1, v2] (.bool true) W' := fun W' hb =>
    law_post (tb := 4) hW' hAk rfl (by kernel_rfl) (by kernel_rfl) (by kernel_rfl) Try.underlying4 rfl rfl rfl hb
  clear hW' hAk hp
  obtain ⟨a0, rfl, rfl, rfl, w0⟩ := open_int Try.underlying3 (hval 0 3 v0 rfl rfl) h0
  obtain ⟨A1, n1, c1, f1, rfl, w1⟩ := flats_arg (ks := [.int .i64, .int .i64]) 9 Try.underlying22 (by kernel_rfl) (by kernel_rfl) (by decide) (hval 1 22 v1 rfl rfl) h1
  obtain ⟨a2, rfl, rfl, rfl, w2⟩ := open_int Try.underlying3 (hval 2 3 v2 rfl rfl) h2
  refine (walk a0 A1 n1 c1 f1 a2 W w0 w1 w2).mono fun e W' ⟨he, hg⟩ => ?_
  subst he
  exact ⟨_, rfl, hend W' hg⟩

theorem over : Rows.ringDoesRow.holds Try.pinned (OpenSpec.ofChange Rows.ringDoesSpec) :=
  OpenClaim.holds_of_wide 3 Try.f3 rfl rfl rfl rfl rfl rfl rfl ⟨rfl, rfl, rfl, rfl, rfl⟩ rfl rfl rfl rfl rfl (by kernel_rfl) Try.func3 (by kernel_rfl)
    (of_decide_eq_true (by kernel_rfl)) (by unfold Func.isWrapper; first | (rw [if_pos (by decide +kernel)]; kernel_rfl) | (rw [if_neg (by decide +kernel)]; exact ⟨rfl, rfl⟩))
    (fun os started H enc _ => lifted os started H enc)

/-- THE STATEMENT -/
theorem proved : Rows.RingDoesSaid :=
  over
#print axioms proved
end Go.Proofs.Ytcbfpejlbbgdjaa.ringDoes

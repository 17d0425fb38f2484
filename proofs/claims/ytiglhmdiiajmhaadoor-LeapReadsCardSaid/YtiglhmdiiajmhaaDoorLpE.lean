/- Package leap: the line of end. -/
import Derived.Test.YtiglhmdiiajmhaaDoorLpC
namespace Go.Proofs.YtiglhmdiiajmhaaDoor
open Go.RowKit
set_option linter.unusedSimpArgs false
set_option linter.unusedVariables false

theorem endR_bad {T : TB} {ws : List ByteArray} (h : ¬ (ws.length = 2 ∧ ws.head? = some endB)) : endR T ws = .error 3 := by
  unfold endR
  split
  · rw [if_neg]
    rintro rfl
    exact h ⟨rfl, rfl⟩
  · rfl
theorem two {ws : List ByteArray} {f : ByteArray} (h : ws.length = 2 ∧ ws.head? = some f) : ∃ b, ws = [f, b] := by
  match ws, h with
  | [x, b], h =>
    have : x = f := by simpa using h.2
    exact ⟨b, by rw [this]⟩
theorem endR_two (T : TB) (b : ByteArray) : endR T [endB, b] = match dayOf b with
      | some d => if T.st < d ∧ takesB T.st T.lp d = true then .ok ⟨T.st, T.ah, d, T.lp⟩ else .error 12
      | none => .error 3 := by
  unfold endR
  exact if_pos rfl
set_option maxRecDepth 100000 in
set_option maxHeartbeats 4000000 in
theorem end_any (w0 w : World) (g q : Nat) (L ws : List ByteArray) (k : Nat) (T : TB) (h : RT w0 w g q L k ws T) (hws : ∀ s ∈ ws, s.size ≤ 16384) (h64 : T.lp.length ≤ 1000) :
    Calls Tryd.prog 50 #[.pointer (some ⟨g, 0, none⟩), .pointer (some ⟨q, 0, none⟩)] w (LinePost w0 g q L k ws (endR T ws)) := by
  by_cases hb : ws.length = 2 ∧ ws.head? = some endB
  · obtain ⟨b, rfl⟩ := two hb
    have hbs := hws b (by simp)
    have hy := behind_yes w w0.heap.size g k L endB [b] h.rd (by simp) (by simp)
    unfold endB at hy
    have hy2 : Calls Tryd.prog 69 #[.pointer (some ⟨g, 0, none⟩), .string ⟨#[101, 110, 100]⟩, .int .i64 1] w fun e w' => ∃ v, e = .returned v ∧ w' = w ∧ Wds w v [b] := hy
    have HR := Lib.hid h
    rw [endR_two]
    clear hy hb hws h
    obtain ⟨ws, hwse⟩ : ∃ ws, [endB, b] = ws := ⟨_, rfl⟩
    simp only [hwse] at HR ⊢
    clear hwse
    cases hdb : dayOf b with
    | none =>
      have HDN := Lib.hid (fun W hk => day_no W g (k : Int) b hdb (by unfold maxLen; omega) hk)
      clear hdb
      go_enter Tryd.func50, Tryd.ntmps50
      go_wp2_with (first
        | (go_at_call 69; refine hy2.mono ?_; rintro e w1 ⟨v, rfl, hw1, hv⟩; replace hw1 := hw1.symm; subst hw1; obtain ⟨bb, cc, rfl, hcc, q0⟩ := hv.one; clear hv)
        | (go_at_call 70; refine (HDN.out _ HR.out.one).mono ?_; rintro e w2 ⟨rfl, hb2⟩))
      exact ⟨rfl, .inr ⟨3, rfl, rfl, (HR.out.below hb2).old⟩⟩
    | some d =>
      have HDY := Lib.hid (fun W => day_yes W g b d hdb)
      clear hdb
      dsimp only
      by_cases hlt : T.st < d
      · have hd1 : decide (T.st < d) = true := decide_eq_true hlt
        have HLt := Lib.hid hlt
        clear hlt
        cases htk : takesB T.st T.lp d with
        | false =>
          rw [if_neg (by rintro ⟨_, k⟩; cases k)]
          have HTB := Lib.hid htk
          clear htk
          go_enter Tryd.func50, Tryd.ntmps50
          go_upto_region 2 with (first
            | (go_at_call 69; refine hy2.mono ?_; rintro e w1 ⟨v, rfl, hw1, hv⟩; replace hw1 := hw1.symm; subst hw1; obtain ⟨bb, cc, rfl, hcc, q0⟩ := hv.one; clear hv)
            | (go_at_call 70; refine (HDY.out _).mono ?_; rintro e w2 ⟨rfl, hb2⟩; have HR2 := Lib.hid (HR.out.below hb2); obtain ⟨At, ct, hT⟩ := HR2.out.tbl; have t2 := hT.cell 2; have g2 := hT.soft 2; clear hT))
          have HX := Lib.hid (show RT w0 (w2.setCell ⟨q, 2, none⟩ (.int .i64 d)).drew g q L k ws ⟨T.st, T.ah, d, T.lp⟩ from (HR2.out.put 2 d ⟨T.st, T.ah, d, T.lp⟩ rfl rfl rfl rfl (by decide)).below (Below.refl _ _).drew)
          obtain ⟨A3, c3, hT3⟩ := HX.out.tbl
          have HS := Lib.hid (show (w2.setCell ⟨q, 2, none⟩ (.int .i64 d)).drew.cell? ⟨q, 0, none⟩ = some (.int .i64 T.st) ∧ (w2.setCell ⟨q, 2, none⟩ (.int .i64 d)).drew.cell? ⟨q, 2, none⟩ = some (.int .i64 d) from ⟨hT3.cell 0, hT3.cell 2⟩)
          clear hT3 hy2 HR HR2 t2 g2
          refine region_turns (fun (w' : World) => w'.cell? ⟨q, 0, none⟩ = some (.int .i64 T.st) ∧ w'.cell? ⟨q, 2, none⟩ = some (.int .i64 d)) (fun j => decide (19 ≤ j)) (by kernel_rfl) (HS.out) (fun hS => ?_)
          refine Turns.take hS 0 _ rfl (by kernel_rfl) (by kernel_rfl) (by kernel_rfl) (by kernel_rfl) (fun _ _ _ h => h) (by rfl) (fun w' hS' => by (try dsimp only at hS'); go_split_ands; go_simp; (try with_reducible rfl)) ?_
          simp only [Act.put, List.getElem_toArray, List.getElem_cons_succ, List.getElem_cons_zero, List.setIfInBounds_toArray, List.set_cons_zero, List.set_cons_succ]
          refine Turns.take hS 1 _ rfl (by kernel_rfl) (by kernel_rfl) (by kernel_rfl) (by kernel_rfl) (fun _ _ _ h => h) (by rfl) (fun w' hS' => by (try dsimp only at hS'); go_split_ands; go_simp; (try with_reducible rfl)) ?_
          simp only [Act.put, List.getElem_toArray, List.getElem_cons_succ, List.getElem_cons_zero, List.setIfInBounds_toArray, List.set_cons_zero, List.set_cons_succ]
          refine Turns.take hS 2 _ rfl (by kernel_rfl) (by kernel_rfl) (by kernel_rfl) (by kernel_rfl) (fun _ _ _ h => h) (by rfl) (fun w' hS' => by (try dsimp only at hS'); go_split_ands; go_simp; (try with_reducible rfl)) ?_
          simp only [Act.put, List.getElem_toArray, List.getElem_cons_succ, List.getElem_cons_zero, List.setIfInBounds_toArray, List.set_cons_zero, List.set_cons_succ]
          refine Turns.take hS 3 _ rfl (by kernel_rfl) (by kernel_rfl) (by kernel_rfl) (by kernel_rfl) (fun _ _ _ h => h) (by rfl) (fun w' hS' => by (try dsimp only at hS'); go_split_ands; go_simp; (try with_reducible rfl)) ?_
          simp only [Act.put, List.getElem_toArray, List.getElem_cons_succ, List.getElem_cons_zero, List.setIfInBounds_toArray, List.set_cons_zero, List.set_cons_succ]
          refine Turns.take hS 4 _ rfl (by kernel_rfl) (by kernel_rfl) (by kernel_rfl) (by kernel_rfl) (fun _ _ _ h => h) (by rfl) (fun w' hS' => by (try dsimp only at hS'); go_split_ands; go_simp; (try with_reducible rfl)) ?_
          simp only [Act.put, List.getElem_toArray, List.getElem_cons_succ, List.getElem_cons_zero, List.setIfInBounds_toArray, List.set_cons_zero, List.set_cons_succ]
          refine Turns.take hS 5 _ rfl (by kernel_rfl) (by kernel_rfl) (by kernel_rfl) (by kernel_rfl) (fun _ _ _ h => h) (by rfl) (fun w' hS' => by (try dsimp only at hS'); go_split_ands; go_simp; (try with_reducible rfl)) ?_
          simp only [Act.put, List.getElem_toArray, List.getElem_cons_succ, List.getElem_cons_zero, List.setIfInBounds_toArray, List.set_cons_zero, List.set_cons_succ]
          refine Turns.take hS 6 _ rfl (by kernel_rfl) (by kernel_rfl) (by kernel_rfl) (by kernel_rfl) (fun _ _ _ h => h) (by rfl) (fun w' hS' => by (try dsimp only at hS'); go_split_ands; go_simp; (try with_reducible rfl)) ?_
          simp only [Act.put, List.getElem_toArray, List.getElem_cons_succ, List.getElem_cons_zero, List.setIfInBounds_toArray, List.set_cons_zero, List.set_cons_succ]
          refine Turns.take hS 7 _ rfl (by kernel_rfl) (by kernel_rfl) (by kernel_rfl) (by kernel_rfl) (fun _ _ _ h => h) (by rfl) (fun w' hS' => by (try dsimp only at hS'); go_split_ands; go_simp; (try with_reducible rfl)) ?_
          simp only [Act.put, List.getElem_toArray, List.getElem_cons_succ, List.getElem_cons_zero, List.setIfInBounds_toArray, List.set_cons_zero, List.set_cons_succ]
          refine Turns.take hS 8 _ rfl (by kernel_rfl) (by kernel_rfl) (by kernel_rfl) (by kernel_rfl) (fun _ _ _ h => h) (by rfl) (fun w' hS' => by (try dsimp only at hS'); go_split_ands; go_simp; (try with_reducible rfl)) ?_
          simp only [Act.put, List.getElem_toArray, List.getElem_cons_succ, List.getElem_cons_zero, List.setIfInBounds_toArray, List.set_cons_zero, List.set_cons_succ]
          refine Turns.take hS 9 _ rfl (by kernel_rfl) (by kernel_rfl) (by kernel_rfl) (by kernel_rfl) (fun _ _ _ h => h) (by rfl) (fun w' hS' => by (try dsimp only at hS'); go_split_ands; go_simp; (try with_reducible rfl)) ?_
          simp only [Act.put, List.getElem_toArray, List.getElem_cons_succ, List.getElem_cons_zero, List.setIfInBounds_toArray, List.set_cons_zero, List.set_cons_succ]
          refine Turns.take hS 10 _ rfl (by kernel_rfl) (by kernel_rfl) (by kernel_rfl) (by kernel_rfl) (fun _ _ _ h => h) (by rfl) (fun w' hS' => by (try dsimp only at hS'); go_split_ands; go_simp; (try with_reducible rfl)) ?_
          simp only [Act.put, List.getElem_toArray, List.getElem_cons_succ, List.getElem_cons_zero, List.setIfInBounds_toArray, List.set_cons_zero, List.set_cons_succ]
          refine Turns.take hS 11 _ rfl (by kernel_rfl) (by kernel_rfl) (by kernel_rfl) (by kernel_rfl) (fun _ _ _ h => h) (by rfl) (fun w' hS' => by (try dsimp only at hS'); go_split_ands; go_simp; (try with_reducible rfl)) ?_
          simp only [Act.put, List.getElem_toArray, List.getElem_cons_succ, List.getElem_cons_zero, List.setIfInBounds_toArray, List.set_cons_zero, List.set_cons_succ]
          refine Turns.take hS 12 _ rfl (by kernel_rfl) (by kernel_rfl) (by kernel_rfl) (by kernel_rfl) (fun _ _ _ h => h) (by rfl) (fun w' hS' => by (try dsimp only at hS'); go_split_ands; go_simp; (try with_reducible rfl)) ?_
          simp only [Act.put, List.getElem_toArray, List.getElem_cons_succ, List.getElem_cons_zero, List.setIfInBounds_toArray, List.set_cons_zero, List.set_cons_succ]
          refine Turns.take hS 13 _ rfl (by kernel_rfl) (by kernel_rfl) (by kernel_rfl) (by kernel_rfl) (fun _ _ _ h => h) (by rfl) (fun w' hS' => by (try dsimp only at hS'); go_split_ands; go_simp; (try with_reducible rfl)) ?_
          simp only [Act.put, List.getElem_toArray, List.getElem_cons_succ, List.getElem_cons_zero, List.setIfInBounds_toArray, List.set_cons_zero, List.set_cons_succ]
          refine Turns.take hS 14 _ rfl (by kernel_rfl) (by kernel_rfl) (by kernel_rfl) (by kernel_rfl) (fun _ _ _ h => h) (by rfl) (fun w' hS' => by (try dsimp only at hS'); go_split_ands; go_simp; (try with_reducible rfl)) ?_
          simp only [Act.put, List.getElem_toArray, List.getElem_cons_succ, List.getElem_cons_zero, List.setIfInBounds_toArray, List.set_cons_zero, List.set_cons_succ]
          refine Turns.take hS 15 _ rfl (by kernel_rfl) (by kernel_rfl) (by kernel_rfl) (by kernel_rfl) (fun _ _ _ h => h) (by rfl) (fun w' hS' => by (try dsimp only at hS'); go_split_ands; go_simp; (try with_reducible rfl)) ?_
          simp only [Act.put, List.getElem_toArray, List.getElem_cons_succ, List.getElem_cons_zero, List.setIfInBounds_toArray, List.set_cons_zero, List.set_cons_succ]
          refine Turns.next 16 rfl (by kernel_rfl) (by rfl) (fun K hK => ?_)
          go_simp
          go_at_call 37
          refine (takes_any _ w0.heap.size q ⟨T.st, T.ah, d, T.lp⟩ d HX.out.tl h64).mono ?_
          rintro e w4 ⟨rfl, n4, hw4⟩
          have HX4 := Lib.hid (HX.out.below (show Below _ _ w4 by rw [hw4]; exact below_drewN (Below.refl _ _) _))
          simp only [HTB.out]
          obtain ⟨A4, c4, hT4⟩ := HX4.out.tbl
          have HS4 := Lib.hid (show w4.cell? ⟨q, 0, none⟩ = some (.int .i64 T.st) ∧ w4.cell? ⟨q, 2, none⟩ = some (.int .i64 d) from ⟨hT4.cell 0, hT4.cell 2⟩)
          clear hw4 hT4
          refine hK.out _ _ (show (fun (w' : World) => w'.cell? ⟨q, 0, none⟩ = some (.int .i64 T.st) ∧ w'.cell? ⟨q, 2, none⟩ = some (.int .i64 d)) _ from HS4.out) ?_
          clear hK K hS
          have hS := (show (fun (w' : World) => w'.cell? ⟨q, 0, none⟩ = some (.int .i64 T.st) ∧ w'.cell? ⟨q, 2, none⟩ = some (.int .i64 d)) _ from HS4.out)
          refine Turns.take hS 17 _ rfl (by kernel_rfl) (by kernel_rfl) (by kernel_rfl) (by kernel_rfl) (fun _ _ _ h => h) (by rfl) (fun w' hS' => by (try dsimp only at hS'); go_split_ands; go_simp; (try with_reducible rfl)) ?_
          simp only [Act.put, List.getElem_toArray, List.getElem_cons_succ, List.getElem_cons_zero, List.setIfInBounds_toArray, List.set_cons_zero, List.set_cons_succ]
          refine Turns.next 18 rfl (by kernel_rfl) (by rfl) (fun K hK => ?_)
          go_simp
          go_at_call 51
          refine (must_no _ _ (k : Int) _ HX4.out.one).mono ?_
          rintro e w5 ⟨rfl, hw5⟩
          replace hw5 := hw5.symm
          subst hw5
          exact ⟨rfl, .inr ⟨12, rfl, rfl, HX4.out.old⟩⟩
        | true =>
          rw [if_pos ⟨HLt.out, rfl⟩]
          have HTB := Lib.hid htk
          clear htk
          go_enter Tryd.func50, Tryd.ntmps50
          go_upto_region 2 with (first
            | (go_at_call 69; refine hy2.mono ?_; rintro e w1 ⟨v, rfl, hw1, hv⟩; replace hw1 := hw1.symm; subst hw1; obtain ⟨bb, cc, rfl, hcc, q0⟩ := hv.one; clear hv)
            | (go_at_call 70; refine (HDY.out _).mono ?_; rintro e w2 ⟨rfl, hb2⟩; have HR2 := Lib.hid (HR.out.below hb2); obtain ⟨At, ct, hT⟩ := HR2.out.tbl; have t2 := hT.cell 2; have g2 := hT.soft 2; clear hT))
          have HX := Lib.hid (show RT w0 (w2.setCell ⟨q, 2, none⟩ (.int .i64 d)).drew g q L k ws ⟨T.st, T.ah, d, T.lp⟩ from (HR2.out.put 2 d ⟨T.st, T.ah, d, T.lp⟩ rfl rfl rfl rfl (by decide)).below (Below.refl _ _).drew)
          obtain ⟨A3, c3, hT3⟩ := HX.out.tbl
          have HS := Lib.hid (show (w2.setCell ⟨q, 2, none⟩ (.int .i64 d)).drew.cell? ⟨q, 0, none⟩ = some (.int .i64 T.st) ∧ (w2.setCell ⟨q, 2, none⟩ (.int .i64 d)).drew.cell? ⟨q, 2, none⟩ = some (.int .i64 d) from ⟨hT3.cell 0, hT3.cell 2⟩)
          clear hT3 hy2 HR HR2 t2 g2
          refine region_turns (fun (w' : World) => w'.cell? ⟨q, 0, none⟩ = some (.int .i64 T.st) ∧ w'.cell? ⟨q, 2, none⟩ = some (.int .i64 d)) (fun j => decide (19 ≤ j)) (by kernel_rfl) (HS.out) (fun hS => ?_)
          refine Turns.take hS 0 _ rfl (by kernel_rfl) (by kernel_rfl) (by kernel_rfl) (by kernel_rfl) (fun _ _ _ h => h) (by rfl) (fun w' hS' => by (try dsimp only at hS'); go_split_ands; go_simp; (try with_reducible rfl)) ?_
          simp only [Act.put, List.getElem_toArray, List.getElem_cons_succ, List.getElem_cons_zero, List.setIfInBounds_toArray, List.set_cons_zero, List.set_cons_succ]
          refine Turns.take hS 1 _ rfl (by kernel_rfl) (by kernel_rfl) (by kernel_rfl) (by kernel_rfl) (fun _ _ _ h => h) (by rfl) (fun w' hS' => by (try dsimp only at hS'); go_split_ands; go_simp; (try with_reducible rfl)) ?_
          simp only [Act.put, List.getElem_toArray, List.getElem_cons_succ, List.getElem_cons_zero, List.setIfInBounds_toArray, List.set_cons_zero, List.set_cons_succ]
          refine Turns.take hS 2 _ rfl (by kernel_rfl) (by kernel_rfl) (by kernel_rfl) (by kernel_rfl) (fun _ _ _ h => h) (by rfl) (fun w' hS' => by (try dsimp only at hS'); go_split_ands; go_simp; (try with_reducible rfl)) ?_
          simp only [Act.put, List.getElem_toArray, List.getElem_cons_succ, List.getElem_cons_zero, List.setIfInBounds_toArray, List.set_cons_zero, List.set_cons_succ]
          refine Turns.take hS 3 _ rfl (by kernel_rfl) (by kernel_rfl) (by kernel_rfl) (by kernel_rfl) (fun _ _ _ h => h) (by rfl) (fun w' hS' => by (try dsimp only at hS'); go_split_ands; go_simp; (try with_reducible rfl)) ?_
          simp only [Act.put, List.getElem_toArray, List.getElem_cons_succ, List.getElem_cons_zero, List.setIfInBounds_toArray, List.set_cons_zero, List.set_cons_succ]
          refine Turns.take hS 4 _ rfl (by kernel_rfl) (by kernel_rfl) (by kernel_rfl) (by kernel_rfl) (fun _ _ _ h => h) (by rfl) (fun w' hS' => by (try dsimp only at hS'); go_split_ands; go_simp; (try with_reducible rfl)) ?_
          simp only [Act.put, List.getElem_toArray, List.getElem_cons_succ, List.getElem_cons_zero, List.setIfInBounds_toArray, List.set_cons_zero, List.set_cons_succ]
          refine Turns.take hS 5 _ rfl (by kernel_rfl) (by kernel_rfl) (by kernel_rfl) (by kernel_rfl) (fun _ _ _ h => h) (by rfl) (fun w' hS' => by (try dsimp only at hS'); go_split_ands; go_simp; (try with_reducible rfl)) ?_
          simp only [Act.put, List.getElem_toArray, List.getElem_cons_succ, List.getElem_cons_zero, List.setIfInBounds_toArray, List.set_cons_zero, List.set_cons_succ]
          refine Turns.take hS 6 _ rfl (by kernel_rfl) (by kernel_rfl) (by kernel_rfl) (by kernel_rfl) (fun _ _ _ h => h) (by rfl) (fun w' hS' => by (try dsimp only at hS'); go_split_ands; go_simp; (try with_reducible rfl)) ?_
          simp only [Act.put, List.getElem_toArray, List.getElem_cons_succ, List.getElem_cons_zero, List.setIfInBounds_toArray, List.set_cons_zero, List.set_cons_succ]
          refine Turns.take hS 7 _ rfl (by kernel_rfl) (by kernel_rfl) (by kernel_rfl) (by kernel_rfl) (fun _ _ _ h => h) (by rfl) (fun w' hS' => by (try dsimp only at hS'); go_split_ands; go_simp; (try with_reducible rfl)) ?_
          simp only [Act.put, List.getElem_toArray, List.getElem_cons_succ, List.getElem_cons_zero, List.setIfInBounds_toArray, List.set_cons_zero, List.set_cons_succ]
          refine Turns.take hS 8 _ rfl (by kernel_rfl) (by kernel_rfl) (by kernel_rfl) (by kernel_rfl) (fun _ _ _ h => h) (by rfl) (fun w' hS' => by (try dsimp only at hS'); go_split_ands; go_simp; (try with_reducible rfl)) ?_
          simp only [Act.put, List.getElem_toArray, List.getElem_cons_succ, List.getElem_cons_zero, List.setIfInBounds_toArray, List.set_cons_zero, List.set_cons_succ]
          refine Turns.take hS 9 _ rfl (by kernel_rfl) (by kernel_rfl) (by kernel_rfl) (by kernel_rfl) (fun _ _ _ h => h) (by rfl) (fun w' hS' => by (try dsimp only at hS'); go_split_ands; go_simp; (try with_reducible rfl)) ?_
          simp only [Act.put, List.getElem_toArray, List.getElem_cons_succ, List.getElem_cons_zero, List.setIfInBounds_toArray, List.set_cons_zero, List.set_cons_succ]
          refine Turns.take hS 10 _ rfl (by kernel_rfl) (by kernel_rfl) (by kernel_rfl) (by kernel_rfl) (fun _ _ _ h => h) (by rfl) (fun w' hS' => by (try dsimp only at hS'); go_split_ands; go_simp; (try with_reducible rfl)) ?_
          simp only [Act.put, List.getElem_toArray, List.getElem_cons_succ, List.getElem_cons_zero, List.setIfInBounds_toArray, List.set_cons_zero, List.set_cons_succ]
          refine Turns.take hS 11 _ rfl (by kernel_rfl) (by kernel_rfl) (by kernel_rfl) (by kernel_rfl) (fun _ _ _ h => h) (by rfl) (fun w' hS' => by (try dsimp only at hS'); go_split_ands; go_simp; (try with_reducible rfl)) ?_
          simp only [Act.put, List.getElem_toArray, List.getElem_cons_succ, List.getElem_cons_zero, List.setIfInBounds_toArray, List.set_cons_zero, List.set_cons_succ]
          refine Turns.take hS 12 _ rfl (by kernel_rfl) (by kernel_rfl) (by kernel_rfl) (by kernel_rfl) (fun _ _ _ h => h) (by rfl) (fun w' hS' => by (try dsimp only at hS'); go_split_ands; go_simp; (try with_reducible rfl)) ?_
          simp only [Act.put, List.getElem_toArray, List.getElem_cons_succ, List.getElem_cons_zero, List.setIfInBounds_toArray, List.set_cons_zero, List.set_cons_succ]
          refine Turns.take hS 13 _ rfl (by kernel_rfl) (by kernel_rfl) (by kernel_rfl) (by kernel_rfl) (fun _ _ _ h => h) (by rfl) (fun w' hS' => by (try dsimp only at hS'); go_split_ands; go_simp; (try with_reducible rfl)) ?_
          simp only [Act.put, List.getElem_toArray, List.getElem_cons_succ, List.getElem_cons_zero, List.setIfInBounds_toArray, List.set_cons_zero, List.set_cons_succ]
          refine Turns.take hS 14 _ rfl (by kernel_rfl) (by kernel_rfl) (by kernel_rfl) (by kernel_rfl) (fun _ _ _ h => h) (by rfl) (fun w' hS' => by (try dsimp only at hS'); go_split_ands; go_simp; (try with_reducible rfl)) ?_
          simp only [Act.put, List.getElem_toArray, List.getElem_cons_succ, List.getElem_cons_zero, List.setIfInBounds_toArray, List.set_cons_zero, List.set_cons_succ]
          refine Turns.take hS 15 _ rfl (by kernel_rfl) (by kernel_rfl) (by kernel_rfl) (by kernel_rfl) (fun _ _ _ h => h) (by rfl) (fun w' hS' => by (try dsimp only at hS'); go_split_ands; go_simp; (try with_reducible rfl)) ?_
          simp only [Act.put, List.getElem_toArray, List.getElem_cons_succ, List.getElem_cons_zero, List.setIfInBounds_toArray, List.set_cons_zero, List.set_cons_succ]
          refine Turns.next 16 rfl (by kernel_rfl) (by rfl) (fun K hK => ?_)
          go_simp
          go_at_call 37
          refine (takes_any _ w0.heap.size q ⟨T.st, T.ah, d, T.lp⟩ d HX.out.tl h64).mono ?_
          rintro e w4 ⟨rfl, n4, hw4⟩
          have HX4 := Lib.hid (HX.out.below (show Below _ _ w4 by rw [hw4]; exact below_drewN (Below.refl _ _) _))
          simp only [HTB.out]
          obtain ⟨A4, c4, hT4⟩ := HX4.out.tbl
          have HS4 := Lib.hid (show w4.cell? ⟨q, 0, none⟩ = some (.int .i64 T.st) ∧ w4.cell? ⟨q, 2, none⟩ = some (.int .i64 d) from ⟨hT4.cell 0, hT4.cell 2⟩)
          clear hw4 hT4
          refine hK.out _ _ (show (fun (w' : World) => w'.cell? ⟨q, 0, none⟩ = some (.int .i64 T.st) ∧ w'.cell? ⟨q, 2, none⟩ = some (.int .i64 d)) _ from HS4.out) ?_
          clear hK K hS
          have hS := (show (fun (w' : World) => w'.cell? ⟨q, 0, none⟩ = some (.int .i64 T.st) ∧ w'.cell? ⟨q, 2, none⟩ = some (.int .i64 d)) _ from HS4.out)
          refine Turns.take hS 17 _ rfl (by kernel_rfl) (by kernel_rfl) (by kernel_rfl) (by kernel_rfl) (fun _ _ _ h => h) (by rfl) (fun w' hS' => by (try dsimp only at hS'); go_split_ands; go_simp; (try with_reducible rfl)) ?_
          simp only [Act.put, List.getElem_toArray, List.getElem_cons_succ, List.getElem_cons_zero, List.setIfInBounds_toArray, List.set_cons_zero, List.set_cons_succ]
          refine Turns.next 18 rfl (by kernel_rfl) (by rfl) (fun K hK => ?_)
          go_simp
          go_at_call 51
          refine (must_yes _ _ _).mono ?_
          rintro e w5 ⟨rfl, hw5⟩
          replace hw5 := hw5.symm
          subst hw5
          refine hK.out _ _ (show (fun (w' : World) => w'.cell? ⟨q, 0, none⟩ = some (.int .i64 T.st) ∧ w'.cell? ⟨q, 2, none⟩ = some (.int .i64 d)) _ from HS4.out) ?_
          clear hK K hS
          have hS := (show (fun (w' : World) => w'.cell? ⟨q, 0, none⟩ = some (.int .i64 T.st) ∧ w'.cell? ⟨q, 2, none⟩ = some (.int .i64 d)) _ from HS4.out)
          refine Turns.rest (late_done (by kernel_rfl)) ?_
          refine any_tail 19 (by rfl) (by kernel_rfl) ?_
          simp only [List.drop_succ_cons, List.drop_zero]
          clear hS
          go_wp2
          go_end0
          exact .inl ⟨_, rfl, rfl, HX4.out⟩
      · rw [if_neg (fun h => hlt h.1)]
        have hd1 : decide (T.st < d) = false := decide_eq_false hlt
        clear hlt
        go_enter Tryd.func50, Tryd.ntmps50
        go_upto_region 2 with (first
          | (go_at_call 69; refine hy2.mono ?_; rintro e w1 ⟨v, rfl, hw1, hv⟩; replace hw1 := hw1.symm; subst hw1; obtain ⟨bb, cc, rfl, hcc, q0⟩ := hv.one; clear hv)
          | (go_at_call 70; refine (HDY.out _).mono ?_; rintro e w2 ⟨rfl, hb2⟩; have HR2 := Lib.hid (HR.out.below hb2); obtain ⟨At, ct, hT⟩ := HR2.out.tbl; have t2 := hT.cell 2; have g2 := hT.soft 2; clear hT))
        have HX := Lib.hid (show RT w0 (w2.setCell ⟨q, 2, none⟩ (.int .i64 d)).drew g q L k ws ⟨T.st, T.ah, d, T.lp⟩ from (HR2.out.put 2 d ⟨T.st, T.ah, d, T.lp⟩ rfl rfl rfl rfl (by decide)).below (Below.refl _ _).drew)
        obtain ⟨A3, c3, hT3⟩ := HX.out.tbl
        have HS := Lib.hid (show (w2.setCell ⟨q, 2, none⟩ (.int .i64 d)).drew.cell? ⟨q, 0, none⟩ = some (.int .i64 T.st) ∧ (w2.setCell ⟨q, 2, none⟩ (.int .i64 d)).drew.cell? ⟨q, 2, none⟩ = some (.int .i64 d) from ⟨hT3.cell 0, hT3.cell 2⟩)
        clear hT3 hy2 HR HR2 t2 g2
        refine region_turns (fun (w' : World) => w'.cell? ⟨q, 0, none⟩ = some (.int .i64 T.st) ∧ w'.cell? ⟨q, 2, none⟩ = some (.int .i64 d)) (fun j => decide (19 ≤ j)) (by kernel_rfl) (HS.out) (fun hS => ?_)
        refine Turns.take hS 0 _ rfl (by kernel_rfl) (by kernel_rfl) (by kernel_rfl) (by kernel_rfl) (fun _ _ _ h => h) (by rfl) (fun w' hS' => by (try dsimp only at hS'); go_split_ands; go_simp; (try with_reducible rfl)) ?_
        simp only [Act.put, List.getElem_toArray, List.getElem_cons_succ, List.getElem_cons_zero, List.setIfInBounds_toArray, List.set_cons_zero, List.set_cons_succ]
        refine Turns.take hS 1 _ rfl (by kernel_rfl) (by kernel_rfl) (by kernel_rfl) (by kernel_rfl) (fun _ _ _ h => h) (by rfl) (fun w' hS' => by (try dsimp only at hS'); go_split_ands; go_simp; (try with_reducible rfl)) ?_
        simp only [Act.put, List.getElem_toArray, List.getElem_cons_succ, List.getElem_cons_zero, List.setIfInBounds_toArray, List.set_cons_zero, List.set_cons_succ]
        refine Turns.take hS 2 _ rfl (by kernel_rfl) (by kernel_rfl) (by kernel_rfl) (by kernel_rfl) (fun _ _ _ h => h) (by rfl) (fun w' hS' => by (try dsimp only at hS'); go_split_ands; go_simp; (try with_reducible rfl)) ?_
        simp only [Act.put, List.getElem_toArray, List.getElem_cons_succ, List.getElem_cons_zero, List.setIfInBounds_toArray, List.set_cons_zero, List.set_cons_succ]
        refine Turns.take hS 3 _ rfl (by kernel_rfl) (by kernel_rfl) (by kernel_rfl) (by kernel_rfl) (fun _ _ _ h => h) (by rfl) (fun w' hS' => by (try dsimp only at hS'); go_split_ands; go_simp; (try with_reducible rfl)) ?_
        simp only [Act.put, List.getElem_toArray, List.getElem_cons_succ, List.getElem_cons_zero, List.setIfInBounds_toArray, List.set_cons_zero, List.set_cons_succ]
        refine Turns.take hS 4 _ rfl (by kernel_rfl) (by kernel_rfl) (by kernel_rfl) (by kernel_rfl) (fun _ _ _ h => h) (by rfl) (fun w' hS' => by (try dsimp only at hS'); go_split_ands; go_simp; (try with_reducible rfl)) ?_
        simp only [Act.put, List.getElem_toArray, List.getElem_cons_succ, List.getElem_cons_zero, List.setIfInBounds_toArray, List.set_cons_zero, List.set_cons_succ]
        refine Turns.take hS 5 _ rfl (by kernel_rfl) (by kernel_rfl) (by kernel_rfl) (by kernel_rfl) (fun _ _ _ h => h) (by rfl) (fun w' hS' => by (try dsimp only at hS'); go_split_ands; go_simp; (try with_reducible rfl)) ?_
        simp only [Act.put, List.getElem_toArray, List.getElem_cons_succ, List.getElem_cons_zero, List.setIfInBounds_toArray, List.set_cons_zero, List.set_cons_succ]
        refine Turns.take hS 6 _ rfl (by kernel_rfl) (by kernel_rfl) (by kernel_rfl) (by kernel_rfl) (fun _ _ _ h => h) (by rfl) (fun w' hS' => by (try dsimp only at hS'); go_split_ands; go_simp; (try with_reducible rfl)) ?_
        simp only [Act.put, List.getElem_toArray, List.getElem_cons_succ, List.getElem_cons_zero, List.setIfInBounds_toArray, List.set_cons_zero, List.set_cons_succ]
        refine Turns.take hS 7 _ rfl (by kernel_rfl) (by kernel_rfl) (by kernel_rfl) (by kernel_rfl) (fun _ _ _ h => h) (by rfl) (fun w' hS' => by (try dsimp only at hS'); go_split_ands; go_simp; (try with_reducible rfl)) ?_
        simp only [Act.put, List.getElem_toArray, List.getElem_cons_succ, List.getElem_cons_zero, List.setIfInBounds_toArray, List.set_cons_zero, List.set_cons_succ]
        refine Turns.take hS 8 _ rfl (by kernel_rfl) (by kernel_rfl) (by kernel_rfl) (by kernel_rfl) (fun _ _ _ h => h) (by rfl) (fun w' hS' => by (try dsimp only at hS'); go_split_ands; go_simp; (try with_reducible rfl)) ?_
        simp only [Act.put, List.getElem_toArray, List.getElem_cons_succ, List.getElem_cons_zero, List.setIfInBounds_toArray, List.set_cons_zero, List.set_cons_succ]
        refine Turns.take hS 9 _ rfl (by kernel_rfl) (by kernel_rfl) (by kernel_rfl) (by kernel_rfl) (fun _ _ _ h => h) (by rfl) (fun w' hS' => by (try dsimp only at hS'); go_split_ands; go_simp; (try with_reducible rfl)) ?_
        simp only [Act.put, List.getElem_toArray, List.getElem_cons_succ, List.getElem_cons_zero, List.setIfInBounds_toArray, List.set_cons_zero, List.set_cons_succ]
        refine Turns.take hS 10 _ rfl (by kernel_rfl) (by kernel_rfl) (by kernel_rfl) (by kernel_rfl) (fun _ _ _ h => h) (by rfl) (fun w' hS' => by (try dsimp only at hS'); go_split_ands; go_simp; (try with_reducible rfl)) ?_
        simp only [Act.put, List.getElem_toArray, List.getElem_cons_succ, List.getElem_cons_zero, List.setIfInBounds_toArray, List.set_cons_zero, List.set_cons_succ]
        refine Turns.skip hS 11 rfl (by kernel_rfl) (by kernel_rfl) (by kernel_rfl) (by kernel_rfl) (fun _ _ _ h => h) (by rfl) ?_
        simp only [Act.put, List.getElem_toArray, List.getElem_cons_succ, List.getElem_cons_zero, List.setIfInBounds_toArray, List.set_cons_zero, List.set_cons_succ]
        refine Turns.skip hS 12 rfl (by kernel_rfl) (by kernel_rfl) (by kernel_rfl) (by kernel_rfl) (fun _ _ _ h => h) (by rfl) ?_
        simp only [Act.put, List.getElem_toArray, List.getElem_cons_succ, List.getElem_cons_zero, List.setIfInBounds_toArray, List.set_cons_zero, List.set_cons_succ]
        refine Turns.skip hS 13 rfl (by kernel_rfl) (by kernel_rfl) (by kernel_rfl) (by kernel_rfl) (fun _ _ _ h => h) (by rfl) ?_
        simp only [Act.put, List.getElem_toArray, List.getElem_cons_succ, List.getElem_cons_zero, List.setIfInBounds_toArray, List.set_cons_zero, List.set_cons_succ]
        refine Turns.skip hS 14 rfl (by kernel_rfl) (by kernel_rfl) (by kernel_rfl) (by kernel_rfl) (fun _ _ _ h => h) (by rfl) ?_
        simp only [Act.put, List.getElem_toArray, List.getElem_cons_succ, List.getElem_cons_zero, List.setIfInBounds_toArray, List.set_cons_zero, List.set_cons_succ]
        refine Turns.skip hS 15 rfl (by kernel_rfl) (by kernel_rfl) (by kernel_rfl) (by kernel_rfl) (fun _ _ _ h => h) (by rfl) ?_
        simp only [Act.put, List.getElem_toArray, List.getElem_cons_succ, List.getElem_cons_zero, List.setIfInBounds_toArray, List.set_cons_zero, List.set_cons_succ]
        refine Turns.skip hS 16 rfl (by kernel_rfl) (by kernel_rfl) (by kernel_rfl) (by kernel_rfl) (fun _ _ _ h => h) (by rfl) ?_
        simp only [Act.put, List.getElem_toArray, List.getElem_cons_succ, List.getElem_cons_zero, List.setIfInBounds_toArray, List.set_cons_zero, List.set_cons_succ]
        refine Turns.take hS 17 _ rfl (by kernel_rfl) (by kernel_rfl) (by kernel_rfl) (by kernel_rfl) (fun _ _ _ h => h) (by rfl) (fun w' hS' => by (try dsimp only at hS'); go_split_ands; go_simp; (try with_reducible rfl)) ?_
        simp only [Act.put, List.getElem_toArray, List.getElem_cons_succ, List.getElem_cons_zero, List.setIfInBounds_toArray, List.set_cons_zero, List.set_cons_succ]
        refine Turns.next 18 rfl (by kernel_rfl) (by rfl) (fun K hK => ?_)
        go_simp
        go_at_call 51
        refine (must_no _ _ (k : Int) _ HX.out.one).mono ?_
        rintro e w5 ⟨rfl, hw5⟩
        replace hw5 := hw5.symm
        subst hw5
        exact ⟨rfl, .inr ⟨12, rfl, rfl, HX.out.old⟩⟩
  · rw [endR_bad hb]
    have hn := behind_no w w0.heap.size g k L ws endB 1 h.rd (by decide) hb
    unfold endB at hn
    have hn2 : Calls Tryd.prog 69 #[.pointer (some ⟨g, 0, none⟩), .string ⟨#[101, 110, 100]⟩, .int .i64 1] w fun e w' => e = .panicked (faultV (k : Int) 3) ∧ w' = w := hn
    have HO := Lib.hid h.old
    clear hn hb
    go_enter Tryd.func50, Tryd.ntmps50
    go_wp2_with (go_at_call 69; refine hn2.mono ?_; rintro e w1 ⟨rfl, hw1⟩; subst hw1)
    exact ⟨rfl, .inr ⟨3, rfl, rfl, HO.out⟩⟩
end Go.Proofs.YtiglhmdiiajmhaaDoor

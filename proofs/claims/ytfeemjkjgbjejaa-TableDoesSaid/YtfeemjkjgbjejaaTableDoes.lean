/-
  In every script of Clear and Add each answer, the errors, all that there is, the newest, the most hops and how many there are, are the document's; a nil table has none; what is answered is new memory; All may be left at any time: for every row of entries, of places of Clear, and every place to leave at, the law answers true; without conditions.
  The walk is the prover's own; the frame of the row's step follows the kit's template.
-/
import Derived.Test.YtfeemjkjgbjejaaRows
import Derived.Test.YtfeemjkjgbjejaaLawKit
import Derived.Test.YtfeemjkjgbjejaaFlat
import Derived.Test.YtfeemjkjgbjejaaTbK
import Derived.LoopTactic
import Derived.Deep.CutBlock
import Derived.BigQuiet
namespace Go.Proofs.Ytfeemjkjgbjejaa.tableDoes
open Go.ChangeShapes Go.WideShapes Go.ChangeAt Go.RowKit Go.ChangeMaps Go.WideElems
set_option linter.unusedVariables false

theorem cells0 {W : World} {vs : List Value} (h : Fit W [.int .i64, .int .i64, .int .i64] vs) : ∃ (s0 : Int) (s1 : Int) (s2 : Int), vs = [.int .i64 s0, .int .i64 s1, .int .i64 s2] ∧ (Lit.int .i64 s0).wf = true ∧ (Lit.int .i64 s1).wf = true ∧ (Lit.int .i64 s2).wf = true := by
  match vs, h.length, h with
  | [y0, y1, y2], _, h =>
    obtain ⟨⟨x0, rfl, h0⟩, ⟨x1, rfl, h1⟩, ⟨x2, rfl, h2⟩, _⟩ := h
    exact ⟨x0, x1, x2, rfl, h0, h1, h2⟩
theorem own : ownKnob Try.prog.godebug = none := by kernel_rfl
set_option linter.unusedSimpArgs false in
set_option maxHeartbeats 4000000 in
set_option maxRecDepth 100000 in
theorem walk (A0 : Option Addr) (n0 c0 : Nat) (f0 : Nat → List Value) (A1 : Option Addr) (n1 c1 : Nat) (z1 : List Int) (a2 : Int) (w : World) (w0 : FlatRow w [.int .i64, .int .i64, .int .i64] A0 n0 c0 f0) (w1 : IntRow w .i64 A1 n1 c1 z1) (w2 : (Lit.int .i64 a2).wf = true) :
    Calls Try.prog 3 #[.slice A0 n0 c0, .slice A1 n1 c1, .int .i64 a2] w fun e w' => e = .returned (.bool true) ∧ Below w.heap.size w w' := by
  by_cases h100 : 100 < n0
  · have d3 : decide ((100 : Int) < (n0 : Int)) = true := decide_eq_true (by omega)
    go_enter Try.func3, Try.ntmps3
    go_wp2_with (first
      | ((go_at_call 6; refine (alive_yes _).mono ?_; rintro e w1 ⟨rfl, hb1⟩))
      | ((go_at_call 7; refine (clear_nil _).mono ?_; rintro e wx ⟨rfl, hwx⟩; subst wx))
      | ((go_at_call 8; refine (last_nil _).mono ?_; rintro e w2 ⟨he2, hb2⟩; have he2' : e = .returned (.tuple #[.agg #[.int .i64 0, .int .i64 0, .int .i64 0], .bool false]) := he2; subst he2'; clear he2; have hbn := hb2.alloc hb2.size (.cells #[.int .i64 0, .int .i64 0, .int .i64 0] 26); clear hb2))
      | ((go_at_call 9; refine (add_nil _ _ _ _).mono ?_; rintro e w3 ⟨rfl, hb3⟩; replace hbn := hbn.trans (hb3.mono hbn.size); clear hb3))
      | ((go_at_call 10; refine (len_nil _).mono ?_; rintro e wx ⟨rfl, hwx⟩; subst wx))
      | ((go_at_call 11; refine (hops_any _ none [] (Src.nil _)).mono ?_; rintro e w4 ⟨he4, hb4⟩; have he4' : e = .returned (.int .i64 0) := he4; subst he4'; clear he4; replace hbn := hbn.trans (hb4.mono hbn.size); clear hb4))
      | ((go_at_call 12; refine (list_any _ none [] (Src.nil _)).mono ?_; rintro e w4 ⟨c4, he4, ho4, hb4⟩; have he4' : e = .returned (.slice (some ⟨_, 0, none⟩) 0 c4) := he4; subst he4'; clear he4 ho4; replace hbn := hbn.trans (hb4.mono hbn.size); clear hb4))
      | ((go_at_call 13; refine (same_any _ none [] 0 none 0 (Src.nil _) (trow_none _ _)).mono ?_; rintro e w5 ⟨rfl, hb5⟩; replace hbn := hbn.trans (hb5.mono hbn.size); clear hb5)))
    go_ret
    exact ⟨rfl, hb1⟩
  have d3 : decide ((100 : Int) < (n0 : Int)) = false := decide_eq_false (by omega)
  by_cases h101 : 100 < n1
  · have d4 : decide ((100 : Int) < (n1 : Int)) = true := decide_eq_true (by omega)
    go_enter Try.func3, Try.ntmps3
    go_wp2_with (first
      | ((go_at_call 6; refine (alive_yes _).mono ?_; rintro e w1 ⟨rfl, hb1⟩))
      | ((go_at_call 7; refine (clear_nil _).mono ?_; rintro e wx ⟨rfl, hwx⟩; subst wx))
      | ((go_at_call 8; refine (last_nil _).mono ?_; rintro e w2 ⟨he2, hb2⟩; have he2' : e = .returned (.tuple #[.agg #[.int .i64 0, .int .i64 0, .int .i64 0], .bool false]) := he2; subst he2'; clear he2; have hbn := hb2.alloc hb2.size (.cells #[.int .i64 0, .int .i64 0, .int .i64 0] 26); clear hb2))
      | ((go_at_call 9; refine (add_nil _ _ _ _).mono ?_; rintro e w3 ⟨rfl, hb3⟩; replace hbn := hbn.trans (hb3.mono hbn.size); clear hb3))
      | ((go_at_call 10; refine (len_nil _).mono ?_; rintro e wx ⟨rfl, hwx⟩; subst wx))
      | ((go_at_call 11; refine (hops_any _ none [] (Src.nil _)).mono ?_; rintro e w4 ⟨he4, hb4⟩; have he4' : e = .returned (.int .i64 0) := he4; subst he4'; clear he4; replace hbn := hbn.trans (hb4.mono hbn.size); clear hb4))
      | ((go_at_call 12; refine (list_any _ none [] (Src.nil _)).mono ?_; rintro e w4 ⟨c4, he4, ho4, hb4⟩; have he4' : e = .returned (.slice (some ⟨_, 0, none⟩) 0 c4) := he4; subst he4'; clear he4 ho4; replace hbn := hbn.trans (hb4.mono hbn.size); clear hb4))
      | ((go_at_call 13; refine (same_any _ none [] 0 none 0 (Src.nil _) (trow_none _ _)).mono ?_; rintro e w5 ⟨rfl, hb5⟩; replace hbn := hbn.trans (hb5.mono hbn.size); clear hb5)))
    go_ret
    exact ⟨rfl, hb1⟩
  have d4 : decide ((100 : Int) < (n1 : Int)) = false := decide_eq_false (by omega)
  have R0 := Lib.hid w0
  have R1 := Lib.hid w1
  have hcap0 := w0.cap_le
  have hmx0 := w0.max
  have hcap1 := w1.cap_le
  have hmx1 := w1.max
  unfold maxLen at hmx0 hmx1
  clear w0 w1 w2
  go_enter Try.func3, Try.ntmps3
  go_wp2_with (first
    | ((go_at_call 6; refine (alive_yes _).mono ?_; rintro e w1 ⟨rfl, hb1⟩))
    | ((go_at_call 7; refine (clear_nil _).mono ?_; rintro e wx ⟨rfl, hwx⟩; subst wx))
    | ((go_at_call 8; refine (last_nil _).mono ?_; rintro e w2 ⟨he2, hb2⟩; have he2' : e = .returned (.tuple #[.agg #[.int .i64 0, .int .i64 0, .int .i64 0], .bool false]) := he2; subst he2'; clear he2; have hbn := hb2.alloc hb2.size (.cells #[.int .i64 0, .int .i64 0, .int .i64 0] 26); clear hb2))
    | ((go_at_call 9; refine (add_nil _ _ _ _).mono ?_; rintro e w3 ⟨rfl, hb3⟩; replace hbn := hbn.trans (hb3.mono hbn.size); clear hb3))
    | ((go_at_call 10; refine (len_nil _).mono ?_; rintro e wx ⟨rfl, hwx⟩; subst wx))
    | ((go_at_call 11; refine (hops_any _ none [] (Src.nil _)).mono ?_; rintro e w4 ⟨he4, hb4⟩; have he4' : e = .returned (.int .i64 0) := he4; subst he4'; clear he4; replace hbn := hbn.trans (hb4.mono hbn.size); clear hb4))
    | ((go_at_call 12; refine (list_any _ none [] (Src.nil _)).mono ?_; rintro e w4 ⟨c4, he4, ho4, hb4⟩; have he4' : e = .returned (.slice (some ⟨_, 0, none⟩) 0 c4) := he4; subst he4'; clear he4 ho4; replace hbn := hbn.trans (hb4.mono hbn.size); clear hb4))
    | ((go_at_call 13; refine (same_any _ none [] 0 none 0 (Src.nil _) (trow_none _ _)).mono ?_; rintro e w5 ⟨rfl, hb5⟩; replace hbn := hbn.trans (hb5.mono hbn.size); clear hb5)))
  have htd : TD w w1.heap.size [] none 0 w5 := by
    have hb := (below_alloc w1 (.cells #[.int .i64 0, .int .i64 0, .int .i64 0, .int .i64 0, .int .i64 0, .int .i64 0, .int .i64 0, .int .i64 0, .int .i64 0, .int .i64 0, .int .i64 0, .int .i64 0, .int .i64 0, .int .i64 0, .int .i64 0, .int .i64 0, .int .i64 0, .int .i64 0, .int .i64 0, .int .i64 0, .int .i64 0, .int .i64 0, .int .i64 0, .int .i64 0, .int .i64 0] 29)).trans (hbn.mono (below_alloc w1 (.cells #[.int .i64 0, .int .i64 0, .int .i64 0, .int .i64 0, .int .i64 0, .int .i64 0, .int .i64 0, .int .i64 0, .int .i64 0, .int .i64 0, .int .i64 0, .int .i64 0, .int .i64 0, .int .i64 0, .int .i64 0, .int .i64 0, .int .i64 0, .int .i64 0, .int .i64 0, .int .i64 0, .int .i64 0, .int .i64 0, .int .i64 0, .int .i64 0, .int .i64 0] 29)).size)
    exact ⟨(tb_new w1).below hbn, trow_none _ _, hb1.trans (hb.mono hb1.size), hb1.size⟩
  obtain ⟨z, hz⟩ : ∃ z, w1.heap.size = z := ⟨_, rfl⟩
  rw [hz] at htd
  simp only [hz]
  have HT0 := Lib.hid htd
  clear hb1 hbn hz htd
  go_loopw [11, 68] (fun y i wr => ∃ (k : Nat) (L : List Ent) (A : Option Addr) (c : Nat), k ≤ n0 ∧ i = .int .i64 (k : Int) ∧ y = .slice A L.length c ∧ TD w z L A c wr) (fun _ i _ => n0 - (intOf i).toNat)
  case atStart => exact ⟨0, [], none, 0, Nat.zero_le _, rfl, rfl, HT0.out⟩
  case round =>
    obtain ⟨k, L, A, c, hk, rfl, rfl, hT⟩ := hrel
    have HT := Lib.hid hT
    clear HT0 hT
    by_cases hlt : k < n0
    · obtain ⟨b, off, rfl, hb', hc⟩ := (R0.out.below HT.out.below).at 3 rfl hlt
      obtain ⟨s0, s1, s2, hf, hw0, hw1, hw2⟩ := cells0 (R0.out.fit k hlt)
      have q0 : wr.cell? ⟨b, off + k * 3, none⟩ = some (.int .i64 s0) := hc 0 _ (by rw [hf]; rfl)
      have q1 : wr.cell? ⟨b, off + k * 3 + 1, none⟩ = some (.int .i64 s1) := hc 1 _ (by rw [hf]; rfl)
      have q2 : wr.cell? ⟨b, off + k * 3 + 2, none⟩ = some (.int .i64 s2) := hc 2 _ (by rw [hf]; rfl)
      have ew := IntWalk.i64_in ((k : Int) + 1) (by omega)
      have HT1 := Lib.hid (HT.out.onto (below_alloc wr (.cells #[.int .i64 s0, .int .i64 s1, .int .i64 s2] 26)))
      have HX1 := Lib.hid (Holds.new wr 26 #[.int .i64 s0, .int .i64 s1, .int .i64 s2])
      have hzx := HT.out.tab.lt
      clear hc hf hw0 hw1 hw2 HT
      go_wp2
      obtain ⟨eb, heb⟩ : ∃ eb, wr.heap.size = eb := ⟨_, rfl⟩
      rw [heb] at HX1 hzx
      simp only [heb]
      clear heb q0 q1 q2
      obtain ⟨W1, hW1⟩ : ∃ W1, wr.alloc (.cells #[.int .i64 s0, .int .i64 s1, .int .i64 s2] 26) = W1 := ⟨_, rfl⟩
      rw [hW1] at HT1 HX1 ⊢
      clear hW1
      go_loopw [11, 75] (fun y i ws => ∃ (j : Nat) (L : List Ent) (A : Option Addr) (c : Nat), j ≤ n1 ∧ i = .int .i64 (j : Int) ∧ y = .slice A L.length c ∧ TD w z L A c ws ∧ Holds ws eb 26 #[.int .i64 s0, .int .i64 s1, .int .i64 s2]) (fun _ i _ => n1 - (intOf i).toNat)
      case atStart => exact ⟨0, L, A, c, Nat.zero_le _, rfl, rfl, HT1.out, HX1.out⟩
      case round =>
        clear HT1 HX1
        obtain ⟨j, L, A, c, hj, rfl, rfl, hT, hX⟩ := hrel
        have HT := Lib.hid hT
        have HX := Lib.hid hX
        clear hT hX
        by_cases hjl : j < n1
        · obtain ⟨b1, off1, rfl, hbw1, hc1⟩ := R1.out.cell (by omega)
          have p1 := (HT.out.below.cell (p := ⟨b1, off1 + j, none⟩) hbw1).trans (hc1 j hjl)
          rw [List.getD_eq_getElem?_getD] at p1
          obtain ⟨X, hX⟩ : ∃ X, z1[j]?.getD 0 = X := ⟨_, rfl⟩
          rw [hX] at p1
          have ew2 := IntWalk.i64_in ((j : Int) + 1) (by omega)
          clear hc1 hX
          by_cases hxk : X = (k : Int)
          · have dxk : (X == (k : Int)) = true := by simpa using hxk
            have hcl := clear_any _ _ _ _ _ _ _ HT.out.tab
            clear hxk
            go_wp2_with (go_at_call 7; (with_reducible refine hcl.mono ?_); rintro e w4 ⟨rfl, ht4, hc4⟩; have HT4 := Lib.hid (HT.out.clear ht4 hc4); have HX4 := Lib.hid (HX.out.chg hc4 (by omega)); clear ht4 hc4)
            go_roundw
            case rel => exact ⟨j + 1, [], none, 0, by omega, by go_num, rfl, HT4.out, HX4.out⟩
            case measure => simp [intOf]; omega
          · have dxk : (X == (k : Int)) = false := by simpa using hxk
            go_wp2
            go_roundw
            case rel => exact ⟨j + 1, L, A, c, by omega, by go_num, rfl, HT.out, HX.out⟩
            case measure => simp [intOf]; omega
        · clear hj
          obtain ⟨M, v, hst⟩ := step_is L (s0, s1, s2)
          have HSt := Lib.hid hst
          have h8L := HT.out.tab.le
          have h8 := step_le hst h8L
          have e0 := HX.out.cell 0
          have e1 := HX.out.cell 1
          have e2 := HX.out.cell 2
          have hradd := radd_step s0 s1 s2 wr (z + 1) A c L M v HT.out.doc h8L (Nat.succ_le_of_lt HT.out.tab.lt) hst
          clear hst
          go_upto_region 24 with (go_at_call 14; (with_reducible refine hradd.mono ?_); rintro e w4 ⟨A4, c4, rfl, hd4, hb4⟩; have HD4 := Lib.hid hd4; have HTab4 := Lib.hid (HT.out.tab.below hb4); have HB4 := Lib.hid (HT.out.below.trans (hb4.mono HT.out.below.size)); have HX4 := Lib.hid (HX.out.below hb4 HX.out.lt); clear hd4 hb4)
          have hwz := HT.out.old
          clear HT HX hradd e0 e1 e2
          have hadd := add_step s0 s1 s2 w4.drew z 0 29 [] [] L M v (HTab4.out.below (below_drewN (Below.refl _ _) 1)) HSt.out
          obtain ⟨g, hgood, hrgood⟩ := good_both s0 s1 s2
          have HG := Lib.hid hgood
          have HRG := Lib.hid hrgood
          have hvv : (v != v) = false := by simp
          have hgg : (g != g) = false := by simp
          clear hgood hrgood
          refine region_turns (fun (w' : World) => w'.cell? ⟨eb, 0, none⟩ = some (.int .i64 s0) ∧ w'.cell? ⟨eb, 1, none⟩ = some (.int .i64 s1) ∧ w'.cell? ⟨eb, 2, none⟩ = some (.int .i64 s2)) (fun j => decide (11 ≤ j)) (by kernel_rfl) (⟨(HX4.out.drewN 1).cell 0, (HX4.out.drewN 1).cell 1, (HX4.out.drewN 1).cell 2⟩) (fun hS => ?_)
          refine Turns.take hS 0 _ rfl (by kernel_rfl) (by kernel_rfl) (by kernel_rfl) (by kernel_rfl) (fun _ _ _ h => h) (by rfl) (fun w' hS' => by (try dsimp only at hS'); go_split_ands; go_simp; (try with_reducible rfl)) ?_
          simp only [Act.put, List.getElem_toArray, List.getElem_cons_succ, List.getElem_cons_zero, List.setIfInBounds_toArray, List.set_cons_zero, List.set_cons_succ]
          refine Turns.take hS 2 _ rfl (by kernel_rfl) (by kernel_rfl) (by kernel_rfl) (by kernel_rfl) (fun _ _ _ h => h) (by rfl) (fun w' hS' => by (try dsimp only at hS'); go_split_ands; go_simp; (try with_reducible rfl)) ?_
          simp only [Act.put, List.getElem_toArray, List.getElem_cons_succ, List.getElem_cons_zero, List.setIfInBounds_toArray, List.set_cons_zero, List.set_cons_succ]
          refine Turns.next 1 rfl (by kernel_rfl) (by rfl) (fun K hK => ?_)
          go_simp
          refine hadd.mono ?_
          rintro e w5 ⟨rfl, ht5, hc5⟩
          have HT5 := Lib.hid (TD.mk ht5 ((HD4.out.below (below_drewN (Below.refl _ _) 1)).chg hc5 (fun k hk => by omega)) (tb_below (HTab4.out.below (below_drewN (Below.refl _ _) 1)) (below_drewN HB4.out 1) hc5 hwz) hwz)
          have HX5 := Lib.hid ((HX4.out.drewN 1).chg hc5 (by omega))
          have hgood := HG.out w5
          refine hK.out _ _ (show (fun (w' : World) => w'.cell? ⟨eb, 0, none⟩ = some (.int .i64 s0) ∧ w'.cell? ⟨eb, 1, none⟩ = some (.int .i64 s1) ∧ w'.cell? ⟨eb, 2, none⟩ = some (.int .i64 s2)) _ from ⟨HX5.out.cell 0, HX5.out.cell 1, HX5.out.cell 2⟩) ?_
          clear hK K hS
          have hS := (show (fun (w' : World) => w'.cell? ⟨eb, 0, none⟩ = some (.int .i64 s0) ∧ w'.cell? ⟨eb, 1, none⟩ = some (.int .i64 s1) ∧ w'.cell? ⟨eb, 2, none⟩ = some (.int .i64 s2)) _ from ⟨HX5.out.cell 0, HX5.out.cell 1, HX5.out.cell 2⟩)
          refine Turns.take hS 3 _ rfl (by kernel_rfl) (by kernel_rfl) (by kernel_rfl) (by kernel_rfl) (fun _ _ _ h => h) (by rfl) (fun w' hS' => by (try dsimp only at hS'); go_split_ands; go_simp; (try with_reducible rfl)) ?_
          simp only [Act.put, List.getElem_toArray, List.getElem_cons_succ, List.getElem_cons_zero, List.setIfInBounds_toArray, List.set_cons_zero, List.set_cons_succ]
          refine Turns.take hS 4 _ rfl (by kernel_rfl) (by kernel_rfl) (by kernel_rfl) (by kernel_rfl) (fun _ _ _ h => h) (by rfl) (fun w' hS' => by (try dsimp only at hS'); go_split_ands; go_simp; (try with_reducible rfl)) ?_
          simp only [Act.put, List.getElem_toArray, List.getElem_cons_succ, List.getElem_cons_zero, List.setIfInBounds_toArray, List.set_cons_zero, List.set_cons_succ]
          refine Turns.take hS 5 _ rfl (by kernel_rfl) (by kernel_rfl) (by kernel_rfl) (by kernel_rfl) (fun _ _ _ h => h) (by rfl) (fun w' hS' => by (try dsimp only at hS'); go_split_ands; go_simp; (try with_reducible rfl)) ?_
          simp only [Act.put, List.getElem_toArray, List.getElem_cons_succ, List.getElem_cons_zero, List.setIfInBounds_toArray, List.set_cons_zero, List.set_cons_succ]
          refine Turns.take hS 7 _ rfl (by kernel_rfl) (by kernel_rfl) (by kernel_rfl) (by kernel_rfl) (fun _ _ _ h => h) (by rfl) (fun w' hS' => by (try dsimp only at hS'); go_split_ands; go_simp; (try with_reducible rfl)) ?_
          simp only [Act.put, List.getElem_toArray, List.getElem_cons_succ, List.getElem_cons_zero, List.setIfInBounds_toArray, List.set_cons_zero, List.set_cons_succ]
          refine Turns.next 6 rfl (by kernel_rfl) (by rfl) (fun K hK => ?_)
          go_simp
          refine hgood.mono ?_
          rintro e w6 ⟨rfl, hb6⟩
          have HT6 := Lib.hid (HT5.out.onto hb6)
          have HX6 := Lib.hid (HX5.out.below hb6 HX5.out.lt)
          have hrgood := HRG.out w6
          refine hK.out _ _ (show (fun (w' : World) => w'.cell? ⟨eb, 0, none⟩ = some (.int .i64 s0) ∧ w'.cell? ⟨eb, 1, none⟩ = some (.int .i64 s1) ∧ w'.cell? ⟨eb, 2, none⟩ = some (.int .i64 s2)) _ from ⟨HX6.out.cell 0, HX6.out.cell 1, HX6.out.cell 2⟩) ?_
          clear hK K hS
          have hS := (show (fun (w' : World) => w'.cell? ⟨eb, 0, none⟩ = some (.int .i64 s0) ∧ w'.cell? ⟨eb, 1, none⟩ = some (.int .i64 s1) ∧ w'.cell? ⟨eb, 2, none⟩ = some (.int .i64 s2)) _ from ⟨HX6.out.cell 0, HX6.out.cell 1, HX6.out.cell 2⟩)
          refine Turns.next 8 rfl (by kernel_rfl) (by rfl) (fun K hK => ?_)
          go_simp
          refine hrgood.mono ?_
          rintro e w7 ⟨rfl, hb7⟩
          have HT7 := Lib.hid (HT6.out.onto hb7)
          have HX7 := Lib.hid (HX6.out.below hb7 HX6.out.lt)
          refine hK.out _ _ (show (fun (w' : World) => w'.cell? ⟨eb, 0, none⟩ = some (.int .i64 s0) ∧ w'.cell? ⟨eb, 1, none⟩ = some (.int .i64 s1) ∧ w'.cell? ⟨eb, 2, none⟩ = some (.int .i64 s2)) _ from ⟨HX7.out.cell 0, HX7.out.cell 1, HX7.out.cell 2⟩) ?_
          clear hK K hS
          have hS := (show (fun (w' : World) => w'.cell? ⟨eb, 0, none⟩ = some (.int .i64 s0) ∧ w'.cell? ⟨eb, 1, none⟩ = some (.int .i64 s1) ∧ w'.cell? ⟨eb, 2, none⟩ = some (.int .i64 s2)) _ from ⟨HX7.out.cell 0, HX7.out.cell 1, HX7.out.cell 2⟩)
          refine Turns.take hS 9 _ rfl (by kernel_rfl) (by kernel_rfl) (by kernel_rfl) (by kernel_rfl) (fun _ _ _ h => h) (by rfl) (fun w' hS' => by (try dsimp only at hS'); go_split_ands; go_simp; (try with_reducible rfl)) ?_
          simp only [Act.put, List.getElem_toArray, List.getElem_cons_succ, List.getElem_cons_zero, List.setIfInBounds_toArray, List.set_cons_zero, List.set_cons_succ]
          refine Turns.take hS 10 _ rfl (by kernel_rfl) (by kernel_rfl) (by kernel_rfl) (by kernel_rfl) (fun _ _ _ h => h) (by rfl) (fun w' hS' => by (try dsimp only at hS'); go_split_ands; go_simp; (try with_reducible rfl)) ?_
          simp only [Act.put, List.getElem_toArray, List.getElem_cons_succ, List.getElem_cons_zero, List.setIfInBounds_toArray, List.set_cons_zero, List.set_cons_succ]
          refine Turns.rest (late_done (by kernel_rfl)) ?_
          refine any_tail 11 (by rfl) (by kernel_rfl) ?_
          simp only [List.drop_succ_cons, List.drop_zero]
          clear hS
          clear HD4 HTab4 HB4 HX4 HT5 HX5 HT6 HX6 HX7 HG HRG HSt hadd hgood hrgood h8L
          obtain ⟨m, hm⟩ : ∃ m, M.length = m := ⟨_, rfl⟩
          have HM := Lib.hid hm
          rw [hm] at h8
          simp only [hm]
          have hlist := list_any w7 _ M HT7.out.tab.src
          have hahead := HT7.out.doc.ahead
          rw [hm] at hahead
          have HAh := Lib.hid hahead
          have hzs := HT7.out.tab.lt
          have hmm : (m != m) = false := by simp
          have hmi : ((m : Int) != (m : Int)) = false := by simp
          obtain ⟨mo, hmo⟩ : ∃ mo, mostL M = mo := ⟨_, rfl⟩
          have hoo : (mo != mo) = false := by simp
          have HMo := Lib.hid hmo
          clear hahead hmo hvv hgg hm
          go_upto_region 29 with (first
            | (go_at_call 12; (with_reducible refine hlist.mono ?_); rintro e w8 ⟨c8, rfl, ho8, hb8⟩; rw [HM.out] at ho8 ⊢; have HO8 := Lib.hid ho8; have HT8 := Lib.hid (HT7.out.onto hb8); clear ho8 hb8; have hlen := len_any w8 _ _ _ _ _ M HT8.out.tab; rw [HM.out] at hlen; have hhops := hops_any w8 _ M HT8.out.tab.src; rw [HMo.out] at hhops)
            | (go_at_call 10; (with_reducible refine hlen.mono ?_); rintro e wx ⟨rfl, hwx⟩; subst wx)
            | (go_at_call 11; (with_reducible refine hhops.mono ?_); rintro e w9 ⟨rfl, hb9⟩; have HT9 := Lib.hid (HT8.out.onto hb9); have HO9 := Lib.hid (own_keep' HO8.out hb9); clear hb9; have hrh := rhops_any w9 (z + 1) A4 M.length c4 M HT9.out.doc (by rw [HM.out]; omega); rw [HM.out, HMo.out] at hrh)
            | (go_at_call 17; (with_reducible refine hrh.mono ?_); rintro e w10 ⟨rfl, hb10⟩; have HT10 := Lib.hid (HT9.out.onto hb10); have HO10 := Lib.hid (own_keep' HO9.out hb10); clear hb10; have hsame := same_any w10 _ M (z + 1) A4 c4 HT10.out.tab.src HT10.out.doc; rw [HM.out] at hsame)
            | (go_at_call 13; (with_reducible refine hsame.mono ?_); rintro e w11 ⟨rfl, hb11⟩; have HT11 := Lib.hid (HT10.out.onto hb11); have HO11 := Lib.hid (own_keep' HO10.out hb11); clear hb11))
          clear HT7 HT8 HT9 HT10 HO8 HO9 HO10 hlist hlen hhops hrh hsame hoo hmm hmi HMo
          obtain ⟨sb, hsb⟩ : ∃ sb, w7.heap.size = sb := ⟨_, rfl⟩
          rw [hsb] at HO11 HAh hzs
          simp only [hsb]
          clear hsb
          have hlast := last_any w11 _ _ _ _ _ M HT11.out.tab
          rcases List.eq_nil_or_concat M with hM | ⟨P, x, hM⟩
          case' inl =>
            have hm0 : m = 0 := by rw [← HM.out, hM]; rfl
            have hl2 : Calls Try.prog 8 #[.pointer (some ⟨z, 0, none⟩)] w11 fun e w' => e = .returned (.tuple #[.agg #[.int .i64 0, .int .i64 0, .int .i64 0], .bool false]) ∧ Below w11.heap.size w11 w' := by
              rw [hM] at hlast
              exact hlast.mono fun e w' ⟨he, hb⟩ => ⟨he, hb⟩
            have g1 : decide ((0 : Int) < (m : Int)) = false := decide_eq_false (by omega)
            have g2 : decide (0 < m) = false := decide_eq_false (by omega)
            have g3 : ¬ 0 < m := by omega
            clear hm0 hlast
            go_upto_region 30 with (go_at_call 8; (with_reducible refine hl2.mono ?_); rintro e w12 ⟨rfl, hb12⟩; have hb13 := hb12.alloc hb12.size (.cells #[.int .i64 0, .int .i64 0, .int .i64 0] 26); have HT12 := Lib.hid (HT11.out.onto hb13); have HO12 := Lib.hid (own_keep' HO11.out hb13); have hx := Holds.new w12 26 #[.int .i64 0, .int .i64 0, .int .i64 0]; have e0 := hx.cell 0; have e1 := hx.cell 1; have e2 := hx.cell 2; clear hb12 hb13 hx)
            go_quiet (fail)
            go_upto_region 32 with (fail)
            obtain ⟨W13, hW13⟩ : ∃ W13, (w12.alloc (.cells #[.int .i64 0, .int .i64 0, .int .i64 0] 26)).drewN nq = W13 := ⟨_, rfl⟩
            have HT13 := Lib.hid (HT12.out.onto (below_drewN (Below.refl _ _) nq))
            have HO13 := Lib.hid (own_keep' HO12.out (below_drewN (Below.refl _ _) nq))
            rw [hW13] at HT13 HO13 ⊢
            clear HT11 HO11 HT12 HO12 e0 e1 e2 g1 g2 g3 hl2 hW13 hM
          case' inr =>
            obtain ⟨x, y, u⟩ := x
            rw [List.concat_eq_append] at hM
            have hmP : m = P.length + 1 := by rw [← HM.out, hM]; simp
            have hl2 : Calls Try.prog 8 #[.pointer (some ⟨z, 0, none⟩)] w11 fun e w' => e = .returned (.tuple #[.agg #[.int .i64 x, .int .i64 y, .int .i64 u], .bool true]) ∧ Below w11.heap.size w11 w' := by
              rw [hM] at hlast
              refine hlast.mono fun e w' ⟨he, hb⟩ => ⟨?_, hb⟩
              simpa using he
            have hxp : M[P.length]? = some (x, y, u) := by rw [hM]; simp
            have HXp := Lib.hid hxp
            obtain ⟨p, hp⟩ : ∃ p, P.length = p := ⟨_, rfl⟩
            rw [hp] at hmP HXp
            have g1 : decide ((0 : Int) < (m : Int)) = true := decide_eq_true (by omega)
            have g2 : decide (0 < m) = true := decide_eq_true (by omega)
            have g3 : 0 < m := by omega
            have g4 : IntKind.i64.wrap ((m : Int) - 1) = (p : Int) := by
              rw [IntWalk.i64_in _ (by omega)]
              omega
            have g5 : (p : Int) < (m : Int) := by omega
            have g6 : p < m := by omega
            clear hmP hlast hp hxp
            go_upto_region 30 with (go_at_call 8; (with_reducible refine hl2.mono ?_); rintro e w12 ⟨rfl, hb12⟩; have hb13 := hb12.alloc hb12.size (.cells #[.int .i64 x, .int .i64 y, .int .i64 u] 26); have HT12 := Lib.hid (HT11.out.onto hb13); have HO12 := Lib.hid (own_keep' HO11.out hb13); have hx := Holds.new w12 26 #[.int .i64 x, .int .i64 y, .int .i64 u]; have e0 := hx.cell 0; have e1 := hx.cell 1; have e2 := hx.cell 2; clear hb12 hb13 hx)
            obtain ⟨bd, od, hA4, d0, d1, d2⟩ := HT12.out.doc.at HXp.out
            subst hA4
            dsimp only at d0 d1 d2
            go_quiet (fail)
            go_upto_region 32 with (fail)
            obtain ⟨A4, hA4⟩ : ∃ A4, some (⟨bd, od, none⟩ : Addr) = A4 := ⟨_, rfl⟩
            obtain ⟨W13, hW13⟩ : ∃ W13, (w12.alloc (.cells #[.int .i64 x, .int .i64 y, .int .i64 u] 26)).drewN nq = W13 := ⟨_, rfl⟩
            have HT13 := Lib.hid (HT12.out.onto (below_drewN (Below.refl _ _) nq))
            have HO13 := Lib.hid (own_keep' HO12.out (below_drewN (Below.refl _ _) nq))
            rw [hW13] at HT13 HO13 ⊢
            rw [hA4] at HT13 HAh
            simp only [hA4]
            clear HT11 HO11 HT12 HO12 e0 e1 e2 g1 g2 g3 g4 g5 g6 hl2 hW13 hM HXp d0 d1 d2 hA4
          all_goals
            go_wp2
            go_loopw [157] (fun i ws => ∃ (j : Nat) (K : List Ent), j ≤ m ∧ i = .int .i64 (j : Int) ∧ K.length = m ∧ (∀ i, j ≤ i → K[i]? = M[i]?) ∧ TD w z M A4 c4 ws ∧ ws.ownsRow sb 26 3 (.slice (some ⟨sb, 0, none⟩) m c8) m (trs K)) (fun i _ => m - (intOf i).toNat)
            case atStart => exact ⟨0, M, Nat.zero_le _, rfl, HM.out, fun _ _ => rfl, HT13.out, HO13.out⟩
            case round =>
              obtain ⟨j, K, hj, rfl, hKl, hK, hT, hO⟩ := hrel
              have HT := Lib.hid hT
              have HO := Lib.hid hO
              have HK := Lib.hid hK
              clear HT13 HO13 hT hO hK
              by_cases hjl : j < m
              · obtain ⟨x, hx⟩ : ∃ x, M[j]? = some x := ⟨_, List.getElem?_eq_getElem (by rw [HM.out]; exact hjl)⟩
                obtain ⟨x0, x1, x2⟩ := ents_at HO.out ((HK.out j (Nat.le_refl _)).trans hx)
                obtain ⟨bd, od, hA4, d0, d1, d2⟩ := HT.out.doc.at hx
                obtain ⟨X, Y, Z⟩ := x
                dsimp only at x0 x1 x2 d0 d1 d2
                have ew2 := IntWalk.i64_in ((j : Int) + 1) (by omega)
                have hji : (j : Int) < (m : Int) := by omega
                simp only [hA4]
                have HA4 := Lib.hid hA4
                clear hx hA4
                go_upto_region 35 with (fail)
                go_quiet (fail)
                go_upto_region 37 with (fail)
                obtain ⟨cur, hH, hfit, hown⟩ := own_place (own_keep' HO.out (below_drewN (Below.refl _ _) nq)) hjl (0, 0, 0)
                have hcg : Chg (fun k => k = sb) wr ((wr.drewN nq).setRow sb (splice cur (j * 3) [.int .i64 0, .int .i64 0, .int .i64 0]).toArray) := (Chg.of_below (fun k => k = sb) (below_drewN (Below.refl _ _) nq)).trans (Chg.of_grown (S := fun k => k = sb) (grown_row _ sb _) (fun k e => by cases e; rfl)) (fun _ _ h => h)
                have HT2 := Lib.hid (HT.out.apart hcg hzs (by rw [HM.out]; exact HAh.out))
                have HO2 := Lib.hid hown
                have HH := Lib.hid hH
                have HF := Lib.hid hfit
                clear hH hfit hown hcg x0 x1 x2 d0 d1 d2
                go_wp2_with (refine wpList_store_at rfl 26 (.tmp 172) (.tmp 171) rfl sb (j * 3) [.int .i64 0, .int .i64 0, .int .i64 0] rfl rfl 26 cur HH.out (by kernel_rfl) HF.out (by simp [Value.oneCell']) ?_)
                go_roundw
                case rel => exact ⟨j + 1, K.set j (0, 0, 0), by omega, by go_num, by rw [List.length_set]; exact hKl, fun i hi => by rw [List.getElem?_set_ne (by omega)]; exact HK.out i (by omega), by rw [← HA4.out]; exact HT2.out, HO2.out⟩
                case measure => simp [intOf]; omega
              · have hji : ¬ (j : Int) < (m : Int) := by omega
                go_wp2
                go_roundw
                case rel => exact ⟨k + 1, M, A4, c4, by omega, by go_num, by rw [HM.out], HT.out⟩
                case measure => simp [intOf]; omega
    · have hsame := same_any wr _ L (z + 1) A c HT.out.tab.src HT.out.doc
      have HB := Lib.hid HT.out.below
      clear hk
      by_cases hst : a2 < 1
      · have dst : decide (a2 < 1) = true := decide_eq_true hst
        go_wp2_with (go_at_call 13; (with_reducible refine hsame.mono ?_); rintro e w5 ⟨rfl, hb5⟩; have HB5 := Lib.hid (HB.out.trans (hb5.mono HB.out.size)); clear hb5)
        go_ret
        exact ⟨rfl, HB5.out⟩
      · have dst : decide (a2 < 1) = false := decide_eq_false hst
        have hmin := fun W => run_min2 a2 (L.length : Int) W
        obtain ⟨V, hV⟩ : ∃ V : Int, (if (L.length : Int) < a2 then (L.length : Int) else a2) = V := ⟨_, rfl⟩
        simp only [hV] at hmin
        have hf := fun W (hW : Below wr.heap.size wr W) => first_any W _ L a2 (by omega) (HT.out.tab.below hW).src
        simp only [hV] at hf
        have HFi := Lib.hid hf
        have dvv : (V == V) = true := by simp
        clear hf hV
        go_wp2_with (first
          | (go_at_call 13; (with_reducible refine hsame.mono ?_); rintro e w5 ⟨rfl, hb5⟩; have HB5 := Lib.hid (HB.out.trans (hb5.mono HB.out.size)); have hf := HFi.out w5 hb5; clear hb5)
          | (go_at_call 18; (with_reducible refine hf.mono ?_); rintro e w6 ⟨rfl, hb6⟩; have HB6 := Lib.hid (HB5.out.trans (hb6.mono HB5.out.size)); clear hb6))
        go_ret
        exact ⟨rfl, HB6.out⟩

set_option maxRecDepth 100000 in
theorem lifted (os : Os) (started : os.Started) (H : Type) (enc : TypeId × Value → H) :
    ReturnsInHanded {} Try.checked os 3 .any (Rows.tableDoesSpec.pre6 enc Try.prog Try.f3 Rows.tableDoesRow.domain false) (Rows.tableDoesSpec.post enc Try.prog Try.f3 false true false false) := by
  refine returnsInHanded_of_change (C := Try.checked) own started (by kernel_rfl) Try.func3
    (ChangeSpec.witness6 (enc := enc) (C := Try.checked) false ⟨#[], #[.slice none 0 0, .slice none 0 0, .int .i64 0], []⟩ 8 (by kernel_rfl) (by kernel_rfl) (by kernel_rfl) (by kernel_rfl)) ?_
  intro W base args ds gs before hval0 hW hcnd _
  have hval : ∀ (j : Nat) t v, Try.f3.params[j]? = some t → args[j]? = some v → Value.okWide Try.prog W .any base t v := hval0
  have hW' := hW
  obtain ⟨p, q, hA0, hV, rfl, hfz, hnd⟩ := hW
  have hA : DataW.TrodAll enc Try.prog W 0 (fun _ => true) true Try.f3.params.toList args.toList ds p := hA0
  have hAk := hA
  rw [Try.params3] at hA hval
  obtain ⟨v0, vs0, d0, ds0, p0, q0, hargs, rfl, hp, h0, r0⟩ := trodAll_cons hA
  obtain ⟨v1, vs1, d1, ds1, p1, q1, rfl, rfl, rfl, h1, r1⟩ := trodAll_cons r0
  obtain ⟨v2, vs2, d2, ds2, p2, q2, rfl, rfl, rfl, h2, r2⟩ := trodAll_cons r1
  obtain ⟨rfl, rfl, rfl⟩ := trodAll_nil r2
  obtain rfl : args = #[v0, v1, v2] := by cases args; simp_all
  obtain ⟨rfl, rfl⟩ := trodVars_none hV
  clear hA0 hval0 hargs
  simp only [List.append_nil] at hW'
  have hend : ∀ W' : World, Below W.heap.size W W' → Rows.tableDoesSpec.post enc Try.prog Try.f3 false true false false W #[v0, v1, v2] (.bool true) W' := fun W' hb =>
    law_post (tb := 4) hW' hAk rfl (by kernel_rfl) (by kernel_rfl) (by kernel_rfl) Try.underlying4 rfl rfl rfl hb
  clear hW' hAk hp
  obtain ⟨A0, n0, c0, f0, rfl, w0⟩ := flats_arg (ks := [.int .i64, .int .i64, .int .i64]) 9 Try.underlying22 (by kernel_rfl) (by kernel_rfl) (by decide) (hval 0 22 v0 rfl rfl) h0
  obtain ⟨A1, n1, c1, z1, rfl, w1⟩ := ints_arg Try.underlying23 Try.underlying3 (by kernel_rfl) (hval 1 23 v1 rfl rfl) h1
  obtain ⟨a2, rfl, rfl, rfl, w2⟩ := open_int Try.underlying3 (hval 2 3 v2 rfl rfl) h2
  refine (walk A0 n0 c0 f0 A1 n1 c1 z1 a2 W w0 w1 w2).mono fun e W' ⟨he, hg⟩ => ?_
  subst he
  exact ⟨_, rfl, hend W' hg⟩

theorem over : Rows.tableDoesRow.holds Try.pinned (OpenSpec.ofChange Rows.tableDoesSpec) :=
  OpenClaim.holds_of_wide 3 Try.f3 rfl rfl rfl rfl rfl rfl rfl ⟨rfl, rfl, rfl, rfl, rfl⟩ rfl rfl rfl rfl rfl (by kernel_rfl) Try.func3 (by kernel_rfl)
    (of_decide_eq_true (by kernel_rfl)) (by unfold Func.isWrapper; first | (rw [if_pos (by decide +kernel)]; kernel_rfl) | (rw [if_neg (by decide +kernel)]; exact ⟨rfl, rfl⟩))
    (fun os started H enc _ => lifted os started H enc)

/-- THE STATEMENT -/
theorem proved : Rows.TableDoesSaid :=
  over
#print axioms proved
end Go.Proofs.Ytfeemjkjgbjejaa.tableDoes

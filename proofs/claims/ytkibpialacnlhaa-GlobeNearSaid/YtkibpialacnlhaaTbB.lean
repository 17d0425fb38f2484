/- Package table: Add, Clear. -/
import Derived.Test.YtkibpialacnlhaaTbA
import Derived.Test.YtkibpialacnlhaaBox
namespace Go.Proofs.Ytkibpialacnlhaa
open Go.RowKit
set_option linter.unusedSimpArgs false
set_option linter.unusedVariables false

/-- Behind Add of one that is taken. -/
def pushL (L : List Ent) (e : Ent) : List Ent := if L.length = 8 then L.tail ++ [e] else L ++ [e]
theorem pushL_len {L : List Ent} (h : L.length ≤ 8) (e : Ent) : (pushL L e).length ≤ 8 := by
  unfold pushL
  split <;> simp <;> omega
/-- Is an entry later than all that there are? -/
def Later (L : List Ent) (e : Ent) : Prop := ∀ x, L.getLast? = some x → x.1 < e.1


theorem add_nil (a b c : Int) (w : World) : Calls Try.prog 19 #[.pointer none, .agg #[.int .i64 a, .int .i64 b, .int .i64 c]] w fun e w' => e = .returned (.int .i64 2) ∧ Below w.heap.size w w' := by
  go_enter Try.func19, Try.ntmps19
  go_wp2
  go_ret
  exact ⟨rfl, below_alloc _ _⟩
theorem add_bad (a b c : Int) (w : World) (p : Addr) (h : ¬ CanE (a, b, c)) : Calls Try.prog 19 #[.pointer (some p), .agg #[.int .i64 a, .int .i64 b, .int .i64 c]] w fun e w' => e = .returned (.int .i64 1) ∧ Below w.heap.size w w' := by
  have HB := Lib.hid (Box.start w 50 #[.int .i64 a, .int .i64 b, .int .i64 c])
  obtain ⟨c0, c1, c2, _⟩ := HB.out.cells3
  go_enter Try.func19, Try.ntmps19
  go_wp2_with (go_at_call 20; refine (good_no _ _ _ _ h).mono ?_; rintro e w2 ⟨rfl, hb⟩; replace HB := Lib.hid (HB.out.next hb); clear hb)
  go_ret
  exact ⟨rfl, HB.out.below⟩
theorem add_late (a b c : Int) (w : World) (g o : Nat) (t : TypeId) (pre post : List Value) (M : List Ent) (x y z : Int) (h : Tb w g o t pre post (M ++ [(x, y, z)])) (hc : CanE (a, b, c)) (hx : a ≤ x) :
    Calls Try.prog 19 #[.pointer (some ⟨g, o, none⟩), .agg #[.int .i64 a, .int .i64 b, .int .i64 c]] w fun e w' => e = .returned (.int .i64 12) ∧ Below w.heap.size w w' := by
  have HB := Lib.hid (Box.start w 50 #[.int .i64 a, .int .i64 b, .int .i64 c])
  obtain ⟨c0, c1, c2, _⟩ := HB.out.cells3
  have hgl : (M ++ [(x, y, z)]).getLast? = some (x, y, z) := by simp
  have hl := fun W (hW : Below w.heap.size w W) => last_any W g o t pre post _ (h.below hW)
  unfold Told at hl
  simp only [hgl] at hl
  have HL := Lib.hid hl
  clear h hgl hl
  go_enter Try.func19, Try.ntmps19
  go_wp2_with (first
    | (go_at_call 20; refine (good_yes _ _ _ _ hc).mono ?_; rintro e w2 ⟨rfl, hb⟩; replace HB := Lib.hid (HB.out.next hb); obtain ⟨c0, c1, c2, _⟩ := HB.out.cells3; have hl := HL.out _ HB.out.below; clear hb)
    | (go_at_call 35; refine hl.mono ?_; rintro e w3 ⟨rfl, hb⟩; replace HB := Lib.hid ((HB.out.next hb).alloc (.cells #[.int .i64 x, .int .i64 y, .int .i64 z] 50)); obtain ⟨c0, c1, c2, _⟩ := HB.out.cells3; obtain ⟨l0, l1, l2⟩ : (w3.alloc (.cells #[.int .i64 x, .int .i64 y, .int .i64 z] 50)).cell? ⟨w3.heap.size, 0, none⟩ = some (.int .i64 x) ∧ (w3.alloc (.cells #[.int .i64 x, .int .i64 y, .int .i64 z] 50)).cell? ⟨w3.heap.size, 1, none⟩ = some (.int .i64 y) ∧ (w3.alloc (.cells #[.int .i64 x, .int .i64 y, .int .i64 z] 50)).cell? ⟨w3.heap.size, 2, none⟩ = some (.int .i64 z) := ⟨(Holds.new _ _ _).cell 0, (Holds.new _ _ _).cell 1, (Holds.new _ _ _).cell 2⟩; clear hb hl))
  go_ret
  exact ⟨rfl, HB.out.below⟩

/-- Behind Add of one that is taken. -/
def Added (g o : Nat) (t : TypeId) (pre post : List Value) (L : List Ent) (x : Ent) (w : World) (e : Ending) (w' : World) : Prop := e = .returned (.int .i64 0) ∧ Tb w' g o t pre post (pushL L x) ∧ Chg (fun k => k = g) w w'
theorem copy_run (W : World) (g o : Nat) (t : TypeId) (pre post : List Value) (K : List Ent) (n : Int) (x : Ent) (ty : TypeId) (hH : Holds W g t (tcs pre post K n).toArray) (hK : K.length = 8) (ho : pre.length = o) (hx : K.drop 7 = [x]) :
    (Builtin.copy_ #[22, 22] ty #[.slice (some ⟨g, o, none⟩) 8 8, .slice (some ⟨g, o + 3, none⟩) 7 7]).run Try.prog W = .ok (.int .i64 7) (W.setRow g (tcs pre post (K.drop 1 ++ [x]) n).toArray) := by
  have hd : (K.drop 1).length = 7 := by rw [List.length_drop, hK]
  have hl : (trs (K.drop 1)).length = 7 * 3 := by rw [trs_len, hd]
  have hr := run_copyK (P := Try.prog) W 22 22 ty 50 3 g o 8 8 ⟨g, o + 3, none⟩ 7 7 (tcs pre post K n) t (trs (K.drop 1)) Try.underlying22 (by kernel_rfl) hH (by rw [hl]; rfl)
    (fun j v hv => by
      have hj : j < 21 := by have := (List.getElem?_eq_some_iff.1 hv).1; omega
      rw [Go.WideShapes.add_plain, hH.cell, List.getElem?_toArray, Nat.add_assoc, tcs_at hK ho (by omega), ← hv, ← trs_drop, List.getElem?_drop])
    (by rw [tcs_len hK ho, hl]; omega) (trs_one _)
  rw [hr, tcs_copy hK ho x hx]
  rfl
theorem drop7 {K : List Ent} (h : K.length = 8) : ∃ x, K.drop 7 = [x] := by
  match K, h with
  | [_, _, _, _, _, _, _, x], _ => exact ⟨x, rfl⟩
set_option maxHeartbeats 2000000 in
theorem add_any (a b c : Int) (w : World) (g o : Nat) (t : TypeId) (pre post : List Value) (L : List Ent) (h : Tb w g o t pre post L) (hc : CanE (a, b, c)) (hx : Later L (a, b, c)) :
    Calls Try.prog 19 #[.pointer (some ⟨g, o, none⟩), .agg #[.int .i64 a, .int .i64 b, .int .i64 c]] w (Added g o t pre post L (a, b, c) w) := by
  have HB := Lib.hid (Box.start w 50 #[.int .i64 a, .int .i64 b, .int .i64 c])
  obtain ⟨c0, c1, c2, _⟩ := HB.out.cells3
  have hgw := h.lt
  have hl : ∀ W, Below w.heap.size w W → Calls Try.prog 35 #[.pointer (some ⟨g, o, none⟩)] W fun e w' => ∃ x y z ok, e = .returned (.tuple #[.agg #[.int .i64 x, .int .i64 y, .int .i64 z], .bool ok]) ∧ (ok = true → decide (a ≤ x) = false) ∧ Below W.heap.size W w' := fun W hW => by
    refine (last_any W g o t pre post L (h.below hW)).mono fun e w' hh => ?_
    obtain ⟨he, hb⟩ := hh
    unfold Later at hx
    cases hg : L.getLast? with
    | none =>
      rw [hg] at he
      exact ⟨0, 0, 0, false, he, (fun h => by cases h), hb⟩
    | some v =>
      obtain ⟨x, y, z⟩ := v
      rw [hg] at he
      have := hx _ hg
      dsimp only at this
      exact ⟨x, y, z, true, he, (fun _ => decide_eq_false (by omega)), hb⟩
  have HL := Lib.hid hl
  obtain ⟨K, h⟩ := h
  have HT := Lib.hid h
  clear h hl hx
  go_enter Try.func19, Try.ntmps19
  go_upto_region 8 with (first
    | (go_at_call 20; refine (good_yes _ _ _ _ hc).mono ?_; rintro e w2 ⟨rfl, hb⟩; replace HB := Lib.hid (HB.out.next hb); obtain ⟨c0, c1, c2, _⟩ := HB.out.cells3; have hl := HL.out _ HB.out.below; clear hb)
    | (go_at_call 35; refine hl.mono ?_; rintro e w3 ⟨x, y, z, ok, rfl, hok, hb⟩; replace HB := Lib.hid ((HB.out.next hb).alloc (.cells #[.int .i64 x, .int .i64 y, .int .i64 z] 50)); obtain ⟨c0, c1, c2, _⟩ := HB.out.cells3; obtain ⟨l0, l1, l2⟩ : (w3.alloc (.cells #[.int .i64 x, .int .i64 y, .int .i64 z] 50)).cell? ⟨w3.heap.size, 0, none⟩ = some (.int .i64 x) ∧ (w3.alloc (.cells #[.int .i64 x, .int .i64 y, .int .i64 z] 50)).cell? ⟨w3.heap.size, 1, none⟩ = some (.int .i64 y) ∧ (w3.alloc (.cells #[.int .i64 x, .int .i64 y, .int .i64 z] 50)).cell? ⟨w3.heap.size, 2, none⟩ = some (.int .i64 z) := ⟨(Holds.new _ _ _).cell 0, (Holds.new _ _ _).cell 1, (Holds.new _ _ _).cell 2⟩; rcases ok with _ | _ <;> simp only [Bool.false_eq_true, false_implies, true_implies] at hok; clear hb hl))
  all_goals
    obtain ⟨W0, hW0⟩ : ∃ W0, w3.alloc (.cells #[.int .i64 x, .int .i64 y, .int .i64 z] 50) = W0 := ⟨_, rfl⟩
    rw [hW0] at HB c0 c1 c2 ⊢
    have HC := Lib.hid (Chg.of_below (fun k => k = g) HB.out.below)
    have hT := HT.out.chg (Chg.of_below (fun _ => False) HB.out.below) id
    have HX := Lib.hid HB.out.holds
    have hct := hT.count
    have hle := hT.le
    clear hW0 l0 l1 l2 HB c0 c1 c2 hc hok HL HT
    obtain ⟨s, hs⟩ : ∃ s, w.heap.size = s := ⟨_, rfl⟩
    rw [hs] at HX hgw ⊢
    have hgs : g ≠ s := by omega
    by_cases h8 : L.length = 8
    case' pos =>
      have hKL : K = L := by rw [← hT.is, h8, List.take_of_length_le (by rw [hT.eight]; omega)]
      rw [h8] at hct
      obtain ⟨v, hv⟩ := drop7 hT.eight
      have hcp := fun ty => copy_run W0.drew g o t pre post K L.length v ty (hT.holds.drewN 1) hT.eight hT.at' hv
      obtain ⟨W1, hW1⟩ : ∃ W1, W0.drew.setRow g (tcs pre post (K.drop 1 ++ [v]) L.length).toArray = W1 := ⟨_, rfl⟩
      simp only [hW1] at hcp
      have hH1 : Holds W1 g t (tcs pre post (K.drop 1 ++ [v]) L.length).toArray := by rw [← hW1]; exact (hT.holds.drewN 1).row _
      have hg1 : W0.drew.grownBy W1 (some g) := by rw [← hW1]; exact grown_row _ _ _
      have hC1 : Chg (fun k => k = g) w W1 := (HC.out.drewN 1).trans (Chg.of_grown hg1 (fun k e => by cases e; rfl)) (fun _ _ h => h)
      have hX1 : Holds W1 s 50 #[.int .i64 a, .int .i64 b, .int .i64 c] := (HX.out.drewN 1).grown hg1 (fun e => hgs (by cases e; rfl))
      have hK1 : (K.drop 1 ++ [v]).length = 8 := by rw [List.length_append, List.length_drop, hT.eight]; rfl
      have hc1 : W1.cell? ⟨g, o + 24, none⟩ = some (.int .i64 8) := by rw [hH1.cell, List.getElem?_toArray, tcs_num hK1 hT.at', h8]; rfl
      have hf1 := hH1.soft (o + 24)
      have hH2 : Holds (W1.setCell ⟨g, o + 24, none⟩ (.int .i64 7)) g t (tcs pre post (K.drop 1 ++ [v]) ((7 : Nat) : Int)).toArray := by
        have := hH1.put (o + 24) (.int .i64 7)
        rwa [tcs_count hK1 hT.at'] at this
      have hp2 : ((K.drop 1 ++ [v]).set 7 (a, b, c)).take (7 + 1) = pushL L (a, b, c) := by
        have hd : (K.drop 1).length = 7 := by rw [List.length_drop, hT.eight]
        rw [List.set_append_right _ _ (by omega), hd, show 7 - 7 = 0 from rfl, List.set_cons_zero, List.take_of_length_le (by rw [List.length_append, hd]; simp)]
        unfold pushL
        rw [if_pos h8, hKL, List.drop_one]
      have HH2 := Lib.hid hH2
      have HX2 := Lib.hid (hX1.far (fun e => hgs e.symm) (.int .i64 7) (i := o + 24))
      have HC2 := Lib.hid (hC1.trans (Chg.set (S := fun k => k = g) W1 g (o + 24) (.int .i64 7) rfl) (fun _ _ h => h))
      have HP2 := Lib.hid hp2
      have ho := hT.at'
      have HK2 := Lib.hid hK1
      clear hW1 hH1 hg1 hC1 hX1 hH2 hp2 hv hK1 HC HX hT hKL
      go_upto_region 9 with (fail)
      refine region_turns (fun (w' : World) => True) (fun j => decide (8 ≤ j)) (by kernel_rfl) (trivial) (fun hS => ?_)
      refine Turns.take hS 0 _ rfl (by kernel_rfl) (by kernel_rfl) (by kernel_rfl) (by kernel_rfl) (fun _ _ _ h => h) (by rfl) (fun w' hS' => by (try dsimp only at hS'); go_split_ands; go_simp; (try with_reducible rfl)) ?_
      simp only [Act.put, List.getElem_toArray, List.getElem_cons_succ, List.getElem_cons_zero, List.setIfInBounds_toArray, List.set_cons_zero, List.set_cons_succ]
      refine Turns.take hS 1 _ rfl (by kernel_rfl) (by kernel_rfl) (by kernel_rfl) (by kernel_rfl) (fun _ _ _ h => h) (by rfl) (fun w' hS' => by (try dsimp only at hS'); go_split_ands; go_simp; (try with_reducible rfl)) ?_
      simp only [Act.put, List.getElem_toArray, List.getElem_cons_succ, List.getElem_cons_zero, List.setIfInBounds_toArray, List.set_cons_zero, List.set_cons_succ]
      refine Turns.take hS 2 _ rfl (by kernel_rfl) (by kernel_rfl) (by kernel_rfl) (by kernel_rfl) (fun _ _ _ h => h) (by rfl) (fun w' hS' => by (try dsimp only at hS'); go_split_ands; go_simp; (try with_reducible rfl)) ?_
      simp only [Act.put, List.getElem_toArray, List.getElem_cons_succ, List.getElem_cons_zero, List.setIfInBounds_toArray, List.set_cons_zero, List.set_cons_succ]
      refine Turns.take hS 3 _ rfl (by kernel_rfl) (by kernel_rfl) (by kernel_rfl) (by kernel_rfl) (fun _ _ _ h => h) (by rfl) (fun w' hS' => by (try dsimp only at hS'); go_split_ands; go_simp; (try with_reducible rfl)) ?_
      simp only [Act.put, List.getElem_toArray, List.getElem_cons_succ, List.getElem_cons_zero, List.setIfInBounds_toArray, List.set_cons_zero, List.set_cons_succ]
      refine Turns.take hS 4 _ rfl (by kernel_rfl) (by kernel_rfl) (by kernel_rfl) (by kernel_rfl) (fun _ _ _ h => h) (by rfl) (fun w' hS' => by (try dsimp only at hS'); go_split_ands; go_simp; (try with_reducible rfl)) ?_
      simp only [Act.put, List.getElem_toArray, List.getElem_cons_succ, List.getElem_cons_zero, List.setIfInBounds_toArray, List.set_cons_zero, List.set_cons_succ]
      refine Turns.take hS 5 _ rfl (by kernel_rfl) (by kernel_rfl) (by kernel_rfl) (by kernel_rfl) (fun _ _ _ h => h) (by rfl) (fun w' hS' => by (try dsimp only at hS'); go_split_ands; go_simp; (try with_reducible rfl)) ?_
      simp only [Act.put, List.getElem_toArray, List.getElem_cons_succ, List.getElem_cons_zero, List.setIfInBounds_toArray, List.set_cons_zero, List.set_cons_succ]
      refine Turns.take hS 6 _ rfl (by kernel_rfl) (by kernel_rfl) (by kernel_rfl) (by kernel_rfl) (fun _ _ _ h => h) (by rfl) (fun w' hS' => by (try dsimp only at hS'); go_split_ands; go_simp; (try with_reducible rfl)) ?_
      simp only [Act.put, List.getElem_toArray, List.getElem_cons_succ, List.getElem_cons_zero, List.setIfInBounds_toArray, List.set_cons_zero, List.set_cons_succ]
      refine Turns.take hS 7 _ rfl (by kernel_rfl) (by kernel_rfl) (by kernel_rfl) (by kernel_rfl) (fun _ _ _ h => h) (by rfl) (fun w' hS' => by (try dsimp only at hS'); go_split_ands; go_simp; (try with_reducible rfl)) ?_
      simp only [Act.put, List.getElem_toArray, List.getElem_cons_succ, List.getElem_cons_zero, List.setIfInBounds_toArray, List.set_cons_zero, List.set_cons_succ]
      refine Turns.rest (late_done (by kernel_rfl)) ?_
      refine any_tail 8 (by rfl) (by kernel_rfl) ?_
      simp only [List.drop_succ_cons, List.drop_zero]
      clear hS
      go_upto_region 11 with (fail)
      obtain ⟨W2, hW2⟩ : ∃ W2, W1.setCell ⟨g, o + 24, none⟩ (.int .i64 7) = W2 := ⟨_, rfl⟩
      obtain ⟨m, hm⟩ : ∃ m : Nat, 7 = m := ⟨_, rfl⟩
      rw [hW2] at HH2 HX2 HC2 ⊢
      rw [hm] at HH2
      have hp3 := HP2.out
      rw [hm] at hp3
      have HP2 := Lib.hid hp3
      have hm8 : m < 8 := by omega
      obtain ⟨K2, hK2⟩ : ∃ K2, K.drop 1 ++ [v] = K2 := ⟨_, rfl⟩
      rw [hK2] at HH2 HP2 HK2
      clear hW2 hm hcp hc1 hf1 h8 hp3 hK2 hct
    case' neg =>
      have hm8 : L.length < 8 := by omega
      have hp2 : (K.set L.length (a, b, c)).take (L.length + 1) = pushL L (a, b, c) := by
        unfold pushL
        rw [if_neg h8, List.take_succ_eq_append_getElem (by rw [List.length_set, hT.eight]; omega), List.take_set_of_le (Nat.le_refl _), hT.is]
        simp
      have HH2 := Lib.hid hT.holds
      have HX2 := HX
      have HC2 := HC
      have HP2 := Lib.hid hp2
      have ho := hT.at'
      have HK2 := Lib.hid hT.eight
      obtain ⟨m, hm⟩ : ∃ m : Nat, L.length = m := ⟨_, rfl⟩
      rw [hm] at HH2 HP2 hm8 hct
      have h8' : ((m : Int) == 8) = false := by simp; omega
      obtain ⟨K2, hK2⟩ : ∃ K2, K = K2 := ⟨_, rfl⟩
      rw [hK2] at HH2 HP2 HK2
      clear hp2 hT HX HC h8 hK2
      have HM := Lib.hid hm
      clear hm
      go_upto_region 11 with (fail)
      obtain ⟨W2, hW2⟩ : ∃ W2, W0 = W2 := ⟨_, rfl⟩
      rw [hW2] at HH2 HX2 HC2 ⊢
      clear hW2 h8' hct HM
    all_goals
      have h0 := HX2.out.cell 0
      have h1 := HX2.out.cell 1
      have h2 := HX2.out.cell 2
      have hct : W2.cell? ⟨g, o + 24, none⟩ = some (.int .i64 (m : Int)) := by rw [HH2.out.cell, List.getElem?_toArray, tcs_num HK2.out ho]
      have hm0 : (m : Int) < 8 := by omega
      have em : IntKind.i64.wrap (m : Int) = (m : Int) := IntWalk.i64_in _ (by omega)
      have em1 : IntKind.i64.wrap ((m : Int) + 1) = (m : Int) + 1 := IntWalk.i64_in _ (by omega)
      have hd2 := HH2.out.drewN 1
      obtain ⟨W3, hW3⟩ : ∃ W3, W2.drew.setRow g (splice (tcs pre post K2 (m : Int)) (o + m * 3) [.int .i64 a, .int .i64 b, .int .i64 c]).toArray = W3 := ⟨_, rfl⟩
      have hH3 : Holds W3 g t (tcs pre post (K2.set m (a, b, c)) (m : Int)).toArray := by
        have := hd2.row (splice (tcs pre post K2 (m : Int)) (o + m * 3) [.int .i64 a, .int .i64 b, .int .i64 c]).toArray
        rw [← tcs_put HK2.out ho hm8, ← hW3]
        exact this
      have hC3 : Chg (fun k => k = g) w W3 := by
        rw [← hW3]
        exact (HC2.out.drewN 1).trans (Chg.of_grown (grown_row _ g _) (fun k e => by cases e; rfl)) (fun _ _ h => h)
      have hK3 : (K2.set m (a, b, c)).length = 8 := by rw [List.length_set]; exact HK2.out
      have hct3 : W3.cell? ⟨g, o + 24, none⟩ = some (.int .i64 (m : Int)) := by rw [hH3.cell, List.getElem?_toArray, tcs_num hK3 ho]
      have hf3 := hH3.soft (o + 24)
      have hl : (pushL L (a, b, c)).length = m + 1 := by rw [← HP2.out, List.length_take, hK3]; omega
      have hend : Added g o t pre post L (a, b, c) w (.returned (.int .i64 0)) (W3.setCell ⟨g, o + 24, none⟩ (.int .i64 ((m : Int) + 1))) := by
        refine ⟨rfl, ⟨K2.set m (a, b, c), ho, hK3, by omega, by rw [hl]; exact HP2.out, ?_⟩, hC3.trans (Chg.set (S := fun k => k = g) W3 g (o + 24) _ rfl) (fun _ _ h => h)⟩
        have := hH3.put (o + 24) (.int .i64 ((m : Int) + 1))
        rw [tcs_count hK3 ho] at this
        rw [hl]
        exact this
      have hfit : o + m * 3 + 3 ≤ (tcs pre post K2 (m : Int)).length := by rw [tcs_len HK2.out ho]; omega
      have HF := Lib.hid hfit
      have HD2 := Lib.hid hd2
      have HE := Lib.hid hend
      have HW := Lib.hid hW3
      clear HH2 HX2 HC2 HP2 HK2 hd2 hH3 hC3 hK3 hl hend hW3 hfit hle ho
      refine region_turns (fun (w' : World) => w'.cell? ⟨g, o + 24, none⟩ = some (.int .i64 (m : Int)) ∧ w'.cell? ⟨s, 0, none⟩ = some (.int .i64 a) ∧ w'.cell? ⟨s, 1, none⟩ = some (.int .i64 b) ∧ w'.cell? ⟨s, 2, none⟩ = some (.int .i64 c)) (fun j => decide (9 ≤ j)) (by kernel_rfl) (⟨hct, h0, h1, h2⟩) (fun hS => ?_)
      refine Turns.take hS 0 _ rfl (by kernel_rfl) (by kernel_rfl) (by kernel_rfl) (by kernel_rfl) (fun _ _ _ h => h) (by rfl) (fun w' hS' => by (try dsimp only at hS'); go_split_ands; go_simp; (try with_reducible rfl)) ?_
      simp only [Act.put, List.getElem_toArray, List.getElem_cons_succ, List.getElem_cons_zero, List.setIfInBounds_toArray, List.set_cons_zero, List.set_cons_succ]
      refine Turns.take hS 1 _ rfl (by kernel_rfl) (by kernel_rfl) (by kernel_rfl) (by kernel_rfl) (fun _ _ _ h => h) (by rfl) (fun w' hS' => by (try dsimp only at hS'); go_split_ands; go_simp; (try with_reducible rfl)) ?_
      simp only [Act.put, List.getElem_toArray, List.getElem_cons_succ, List.getElem_cons_zero, List.setIfInBounds_toArray, List.set_cons_zero, List.set_cons_succ]
      refine Turns.take hS 2 _ rfl (by kernel_rfl) (by kernel_rfl) (by kernel_rfl) (by kernel_rfl) (fun _ _ _ h => h) (by rfl) (fun w' hS' => by (try dsimp only at hS'); go_split_ands; go_simp; (try with_reducible rfl)) ?_
      simp only [Act.put, List.getElem_toArray, List.getElem_cons_succ, List.getElem_cons_zero, List.setIfInBounds_toArray, List.set_cons_zero, List.set_cons_succ]
      refine Turns.take hS 3 _ rfl (by kernel_rfl) (by kernel_rfl) (by kernel_rfl) (by kernel_rfl) (fun _ _ _ h => h) (by rfl) (fun w' hS' => by (try dsimp only at hS'); go_split_ands; go_simp; (try with_reducible rfl)) ?_
      simp only [Act.put, List.getElem_toArray, List.getElem_cons_succ, List.getElem_cons_zero, List.setIfInBounds_toArray, List.set_cons_zero, List.set_cons_succ]
      refine Turns.take hS 4 _ rfl (by kernel_rfl) (by kernel_rfl) (by kernel_rfl) (by kernel_rfl) (fun _ _ _ h => h) (by rfl) (fun w' hS' => by (try dsimp only at hS'); go_split_ands; go_simp; (try with_reducible rfl)) ?_
      simp only [Act.put, List.getElem_toArray, List.getElem_cons_succ, List.getElem_cons_zero, List.setIfInBounds_toArray, List.set_cons_zero, List.set_cons_succ]
      refine Turns.take hS 5 _ rfl (by kernel_rfl) (by kernel_rfl) (by kernel_rfl) (by kernel_rfl) (fun _ _ _ h => h) (by rfl) (fun w' hS' => by (try dsimp only at hS'); go_split_ands; go_simp; (try with_reducible rfl)) ?_
      simp only [Act.put, List.getElem_toArray, List.getElem_cons_succ, List.getElem_cons_zero, List.setIfInBounds_toArray, List.set_cons_zero, List.set_cons_succ]
      refine Turns.take hS 6 _ rfl (by kernel_rfl) (by kernel_rfl) (by kernel_rfl) (by kernel_rfl) (fun _ _ _ h => h) (by rfl) (fun w' hS' => by (try dsimp only at hS'); go_split_ands; go_simp; (try with_reducible rfl)) ?_
      simp only [Act.put, List.getElem_toArray, List.getElem_cons_succ, List.getElem_cons_zero, List.setIfInBounds_toArray, List.set_cons_zero, List.set_cons_succ]
      refine Turns.take hS 7 _ rfl (by kernel_rfl) (by kernel_rfl) (by kernel_rfl) (by kernel_rfl) (fun _ _ _ h => h) (by rfl) (fun w' hS' => by (try dsimp only at hS'); go_split_ands; go_simp; (try with_reducible rfl)) ?_
      simp only [Act.put, List.getElem_toArray, List.getElem_cons_succ, List.getElem_cons_zero, List.setIfInBounds_toArray, List.set_cons_zero, List.set_cons_succ]
      refine Turns.take hS 8 _ rfl (by kernel_rfl) (by kernel_rfl) (by kernel_rfl) (by kernel_rfl) (fun _ _ _ h => h) (by rfl) (fun w' hS' => by (try dsimp only at hS'); go_split_ands; go_simp; (try with_reducible rfl)) ?_
      simp only [Act.put, List.getElem_toArray, List.getElem_cons_succ, List.getElem_cons_zero, List.setIfInBounds_toArray, List.set_cons_zero, List.set_cons_succ]
      refine Turns.rest (late_done (by kernel_rfl)) ?_
      refine any_tail 9 (by rfl) (by kernel_rfl) ?_
      simp only [List.drop_succ_cons, List.drop_zero]
      clear hS
      refine wpList_store_at rfl 50 (.tmp 54) (.tmp 51) rfl g (o + m * 3) [.int .i64 a, .int .i64 b, .int .i64 c] rfl rfl t _ HD2.out (by kernel_rfl) HF.out (by simp [Value.oneCell']) ?_
      rw [HW.out]
      clear HW HF HD2 hct h0 h1 h2
      go_wp2
      go_ret
      exact HE.out
end Go.Proofs.Ytkibpialacnlhaa

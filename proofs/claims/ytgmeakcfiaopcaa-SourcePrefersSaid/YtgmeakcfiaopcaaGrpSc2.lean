/- Texts of this seat, one behind the other. -/
import Derived.Test.YtgmeakcfiaopcaaGrpSc1
import Derived.RangeFuncNested
import Derived.RangeFuncBound
import Derived.RangeFuncCalls
import Derived.RangeFuncLeaves
import Derived.RangeFuncWrites
import Derived.Shelf.Abstract
import Derived.OwnWalkIn
import Derived.TacticsInMore
import Derived.LoopNIn
import Derived.LoopIn
import Derived.BigQuiet
import Derived.Lib.SlFresh
import Derived.Test.YtgmeakcfiaopcaaProg
import Derived.Outline
import Derived.PlainAid
import Derived.OwnWalk
import Derived.Deep.QuietTactic
import Derived.LoopTactic
import Derived.IntWalk
import Derived.WalkKit
import Derived.Laws.Bits64b
import Derived.Lib.BitFns
import Derived.Lib.ItoaNum
import Derived.Laws.MathBits
import Derived.Lib.Walk
import Derived.Deep.CutBlock
/- Package table: Add, Clear. -/
namespace Go.Proofs.Ytgmeakcfiaopcaa
open Go.RowKit
set_option linter.unusedSimpArgs false
set_option linter.unusedVariables false

/-- Behind Add of one that is taken. -/
def pushL (L : List Ent) (e : Ent) : List Ent := if L.length = 8 then L.tail ++ [e] else L ++ [e]
theorem pushL_len {L : List Ent} (h : L.length ≤ 8) (e : Ent) : (pushL L e).length ≤ 8 := by
  unfold pushL
  split <;> simp <;> omega
/-- Is an entry later than all that there are? -/
def Later (L : List Ent) (e : Ent) : Prop := ∀ x, L.getLast? = some x → x.1 < e.1

theorem clear_nil (w : World) : Calls Try.prog 37 #[.pointer none] w fun e w' => e = .returned (.tuple #[]) ∧ w' = w := by
  go_enter Try.func37, Try.ntmps37
  go_wp2
  refine bodyPost_ret (results_none rfl _ _ _) rfl ?_
  exact ⟨rfl, rfl⟩
theorem clear_any (w : World) (g o : Nat) (t : TypeId) (pre post : List Value) (L : List Ent) (h : Tb w g o t pre post L) :
    Calls Try.prog 37 #[.pointer (some ⟨g, o, none⟩)] w fun e w' => e = .returned (.tuple #[]) ∧ Tb w' g o t pre post [] ∧ Chg (fun k => k = g) w w' := by
  obtain ⟨K, h⟩ := h
  have hfit : o + zeroT.length ≤ (tcs pre post K L.length).length := by
    rw [tcs_len h.eight h.at', show zeroT.length = 25 from rfl]
    omega
  have hend : Tb (w.setRow g (splice (tcs pre post K L.length) o zeroT).toArray) g o t pre post [] ∧ Chg (fun k => k = g) w (w.setRow g (splice (tcs pre post K L.length) o zeroT).toArray) := by
    have hr := h.holds.row (splice (tcs pre post K L.length) o zeroT).toArray
    refine ⟨⟨List.replicate 8 (0, 0, 0), h.at', rfl, Nat.zero_le _, rfl, ?_⟩, Chg.of_grown (grown_row w g _) (fun k e => by cases e; rfl)⟩
    unfold zeroT at hr ⊢
    rw [tcs_zero h.eight h.at' _ (by decide)] at hr ⊢
    exact hr
  have HE := Lib.hid hend
  have HF := Lib.hid hfit
  have HH := Lib.hid h.holds
  clear h hend hfit
  go_enter Try.func37, Try.ntmps37
  go_wp2_with (refine wpList_store_at rfl 63 (.tmp 6) (.tmp 5) rfl g o zeroT rfl rfl t _ HH.out (by kernel_rfl) HF.out zeroT_one ?_)
  go_end0
  exact ⟨rfl, HE.out⟩

theorem add_nil (a b c : Int) (w : World) : Calls Try.prog 38 #[.pointer none, .agg #[.int .i64 a, .int .i64 b, .int .i64 c]] w fun e w' => e = .returned (.int .i64 2) ∧ Below w.heap.size w w' := by
  go_enter Try.func38, Try.ntmps38
  go_wp2
  go_ret
  exact ⟨rfl, below_alloc _ _⟩
theorem add_bad (a b c : Int) (w : World) (p : Addr) (h : ¬ CanE (a, b, c)) : Calls Try.prog 38 #[.pointer (some p), .agg #[.int .i64 a, .int .i64 b, .int .i64 c]] w fun e w' => e = .returned (.int .i64 1) ∧ Below w.heap.size w w' := by
  have HB := Lib.hid (Box.start w 42 #[.int .i64 a, .int .i64 b, .int .i64 c])
  obtain ⟨c0, c1, c2, _⟩ := HB.out.cells3
  go_enter Try.func38, Try.ntmps38
  go_wp2_with (go_at_call 29; refine (good_no _ _ _ _ h).mono ?_; rintro e w2 ⟨rfl, hb⟩; replace HB := Lib.hid (HB.out.next hb); clear hb)
  go_ret
  exact ⟨rfl, HB.out.below⟩
theorem add_late (a b c : Int) (w : World) (g o : Nat) (t : TypeId) (pre post : List Value) (M : List Ent) (x y z : Int) (h : Tb w g o t pre post (M ++ [(x, y, z)])) (hc : CanE (a, b, c)) (hx : a ≤ x) :
    Calls Try.prog 38 #[.pointer (some ⟨g, o, none⟩), .agg #[.int .i64 a, .int .i64 b, .int .i64 c]] w fun e w' => e = .returned (.int .i64 12) ∧ Below w.heap.size w w' := by
  have HB := Lib.hid (Box.start w 42 #[.int .i64 a, .int .i64 b, .int .i64 c])
  obtain ⟨c0, c1, c2, _⟩ := HB.out.cells3
  have hgl : (M ++ [(x, y, z)]).getLast? = some (x, y, z) := by simp
  have hl := fun W (hW : Below w.heap.size w W) => last_any W g o t pre post _ (h.below hW)
  unfold Told at hl
  simp only [hgl] at hl
  have HL := Lib.hid hl
  clear h hgl hl
  go_enter Try.func38, Try.ntmps38
  go_wp2_with (first
    | (go_at_call 29; refine (good_yes _ _ _ _ hc).mono ?_; rintro e w2 ⟨rfl, hb⟩; replace HB := Lib.hid (HB.out.next hb); obtain ⟨c0, c1, c2, _⟩ := HB.out.cells3; have hl := HL.out _ HB.out.below; clear hb)
    | (go_at_call 46; refine hl.mono ?_; rintro e w3 ⟨rfl, hb⟩; replace HB := Lib.hid ((HB.out.next hb).alloc (.cells #[.int .i64 x, .int .i64 y, .int .i64 z] 42)); obtain ⟨c0, c1, c2, _⟩ := HB.out.cells3; obtain ⟨l0, l1, l2⟩ : (w3.alloc (.cells #[.int .i64 x, .int .i64 y, .int .i64 z] 42)).cell? ⟨w3.heap.size, 0, none⟩ = some (.int .i64 x) ∧ (w3.alloc (.cells #[.int .i64 x, .int .i64 y, .int .i64 z] 42)).cell? ⟨w3.heap.size, 1, none⟩ = some (.int .i64 y) ∧ (w3.alloc (.cells #[.int .i64 x, .int .i64 y, .int .i64 z] 42)).cell? ⟨w3.heap.size, 2, none⟩ = some (.int .i64 z) := ⟨(Holds.new _ _ _).cell 0, (Holds.new _ _ _).cell 1, (Holds.new _ _ _).cell 2⟩; clear hb hl))
  go_ret
  exact ⟨rfl, HB.out.below⟩

/-- Behind Add of one that is taken. -/
def Added (g o : Nat) (t : TypeId) (pre post : List Value) (L : List Ent) (x : Ent) (w : World) (e : Ending) (w' : World) : Prop := e = .returned (.int .i64 0) ∧ Tb w' g o t pre post (pushL L x) ∧ Chg (fun k => k = g) w w'
theorem copy_run (W : World) (g o : Nat) (t : TypeId) (pre post : List Value) (K : List Ent) (n : Int) (x : Ent) (ty : TypeId) (hH : Holds W g t (tcs pre post K n).toArray) (hK : K.length = 8) (ho : pre.length = o) (hx : K.drop 7 = [x]) :
    (Builtin.copy_ #[100, 100] ty #[.slice (some ⟨g, o, none⟩) 8 8, .slice (some ⟨g, o + 3, none⟩) 7 7]).run Try.prog W = .ok (.int .i64 7) (W.setRow g (tcs pre post (K.drop 1 ++ [x]) n).toArray) := by
  have hd : (K.drop 1).length = 7 := by rw [List.length_drop, hK]
  have hl : (trs (K.drop 1)).length = 7 * 3 := by rw [trs_len, hd]
  have hr := run_copyK (P := Try.prog) W 100 100 ty 42 3 g o 8 8 ⟨g, o + 3, none⟩ 7 7 (tcs pre post K n) t (trs (K.drop 1)) Try.underlying100 (by kernel_rfl) hH (by rw [hl]; rfl)
    (fun j v hv => by
      have hj : j < 21 := by have := (List.getElem?_eq_some_iff.1 hv).1; omega
      rw [Go.WideShapes.add_plain, hH.cell, List.getElem?_toArray, Nat.add_assoc, tcs_at hK ho (by omega), ← hv, ← trs_drop, List.getElem?_drop])
    (by rw [tcs_len hK ho, hl]; omega) (trs_one _)
  rw [hr, tcs_copy hK ho x hx]
  rfl
theorem drop7 {K : List Ent} (h : K.length = 8) : ∃ x, K.drop 7 = [x] := by
  match K, h with
  | [_, _, _, _, _, _, _, x], _ => exact ⟨x, rfl⟩
set_option maxHeartbeats 2000000 in
theorem add_any (a b c : Int) (w : World) (g o : Nat) (t : TypeId) (pre post : List Value) (L : List Ent) (h : Tb w g o t pre post L) (hc : CanE (a, b, c)) (hx : Later L (a, b, c)) :
    Calls Try.prog 38 #[.pointer (some ⟨g, o, none⟩), .agg #[.int .i64 a, .int .i64 b, .int .i64 c]] w (Added g o t pre post L (a, b, c) w) := by
  have HB := Lib.hid (Box.start w 42 #[.int .i64 a, .int .i64 b, .int .i64 c])
  obtain ⟨c0, c1, c2, _⟩ := HB.out.cells3
  have hgw := h.lt
  have hl : ∀ W, Below w.heap.size w W → Calls Try.prog 46 #[.pointer (some ⟨g, o, none⟩)] W fun e w' => ∃ x y z ok, e = .returned (.tuple #[.agg #[.int .i64 x, .int .i64 y, .int .i64 z], .bool ok]) ∧ (ok = true → decide (a ≤ x) = false) ∧ Below W.heap.size W w' := fun W hW => by
    refine (last_any W g o t pre post L (h.below hW)).mono fun e w' hh => ?_
    obtain ⟨he, hb⟩ := hh
    unfold Later at hx
    cases hg : L.getLast? with
    | none =>
      rw [hg] at he
      exact ⟨0, 0, 0, false, he, (fun h => by cases h), hb⟩
    | some v =>
      obtain ⟨x, y, z⟩ := v
      rw [hg] at he
      have := hx _ hg
      dsimp only at this
      exact ⟨x, y, z, true, he, (fun _ => decide_eq_false (by omega)), hb⟩
  have HL := Lib.hid hl
  obtain ⟨K, h⟩ := h
  have HT := Lib.hid h
  clear h hl hx
  go_enter Try.func38, Try.ntmps38
  go_upto_region 8 with (first
    | (go_at_call 29; refine (good_yes _ _ _ _ hc).mono ?_; rintro e w2 ⟨rfl, hb⟩; replace HB := Lib.hid (HB.out.next hb); obtain ⟨c0, c1, c2, _⟩ := HB.out.cells3; have hl := HL.out _ HB.out.below; clear hb)
    | (go_at_call 46; refine hl.mono ?_; rintro e w3 ⟨x, y, z, ok, rfl, hok, hb⟩; replace HB := Lib.hid ((HB.out.next hb).alloc (.cells #[.int .i64 x, .int .i64 y, .int .i64 z] 42)); obtain ⟨c0, c1, c2, _⟩ := HB.out.cells3; obtain ⟨l0, l1, l2⟩ : (w3.alloc (.cells #[.int .i64 x, .int .i64 y, .int .i64 z] 42)).cell? ⟨w3.heap.size, 0, none⟩ = some (.int .i64 x) ∧ (w3.alloc (.cells #[.int .i64 x, .int .i64 y, .int .i64 z] 42)).cell? ⟨w3.heap.size, 1, none⟩ = some (.int .i64 y) ∧ (w3.alloc (.cells #[.int .i64 x, .int .i64 y, .int .i64 z] 42)).cell? ⟨w3.heap.size, 2, none⟩ = some (.int .i64 z) := ⟨(Holds.new _ _ _).cell 0, (Holds.new _ _ _).cell 1, (Holds.new _ _ _).cell 2⟩; rcases ok with _ | _ <;> simp only [Bool.false_eq_true, false_implies, true_implies] at hok; clear hb hl))
  all_goals
    obtain ⟨W0, hW0⟩ : ∃ W0, w3.alloc (.cells #[.int .i64 x, .int .i64 y, .int .i64 z] 42) = W0 := ⟨_, rfl⟩
    rw [hW0] at HB c0 c1 c2 ⊢
    have HC := Lib.hid (Chg.of_below (fun k => k = g) HB.out.below)
    have hT := HT.out.chg (Chg.of_below (fun _ => False) HB.out.below) id
    have HX := Lib.hid HB.out.holds
    have hct := hT.count
    have hle := hT.le
    clear hW0 l0 l1 l2 HB c0 c1 c2 hc hok HL HT
    obtain ⟨s, hs⟩ : ∃ s, w.heap.size = s := ⟨_, rfl⟩
    rw [hs] at HX hgw ⊢
    have hgs : g ≠ s := by omega
    by_cases h8 : L.length = 8
    case' pos =>
      have hKL : K = L := by rw [← hT.is, h8, List.take_of_length_le (by rw [hT.eight]; omega)]
      rw [h8] at hct
      obtain ⟨v, hv⟩ := drop7 hT.eight
      have hcp := fun ty => copy_run W0.drew g o t pre post K L.length v ty (hT.holds.drewN 1) hT.eight hT.at' hv
      obtain ⟨W1, hW1⟩ : ∃ W1, W0.drew.setRow g (tcs pre post (K.drop 1 ++ [v]) L.length).toArray = W1 := ⟨_, rfl⟩
      simp only [hW1] at hcp
      have hH1 : Holds W1 g t (tcs pre post (K.drop 1 ++ [v]) L.length).toArray := by rw [← hW1]; exact (hT.holds.drewN 1).row _
      have hg1 : W0.drew.grownBy W1 (some g) := by rw [← hW1]; exact grown_row _ _ _
      have hC1 : Chg (fun k => k = g) w W1 := (HC.out.drewN 1).trans (Chg.of_grown hg1 (fun k e => by cases e; rfl)) (fun _ _ h => h)
      have hX1 : Holds W1 s 42 #[.int .i64 a, .int .i64 b, .int .i64 c] := (HX.out.drewN 1).grown hg1 (fun e => hgs (by cases e; rfl))
      have hK1 : (K.drop 1 ++ [v]).length = 8 := by rw [List.length_append, List.length_drop, hT.eight]; rfl
      have hc1 : W1.cell? ⟨g, o + 24, none⟩ = some (.int .i64 8) := by rw [hH1.cell, List.getElem?_toArray, tcs_num hK1 hT.at', h8]; rfl
      have hf1 := hH1.soft (o + 24)
      have hH2 : Holds (W1.setCell ⟨g, o + 24, none⟩ (.int .i64 7)) g t (tcs pre post (K.drop 1 ++ [v]) ((7 : Nat) : Int)).toArray := by
        have := hH1.put (o + 24) (.int .i64 7)
        rwa [tcs_count hK1 hT.at'] at this
      have hp2 : ((K.drop 1 ++ [v]).set 7 (a, b, c)).take (7 + 1) = pushL L (a, b, c) := by
        have hd : (K.drop 1).length = 7 := by rw [List.length_drop, hT.eight]
        rw [List.set_append_right _ _ (by omega), hd, show 7 - 7 = 0 from rfl, List.set_cons_zero, List.take_of_length_le (by rw [List.length_append, hd]; simp)]
        unfold pushL
        rw [if_pos h8, hKL, List.drop_one]
      have HH2 := Lib.hid hH2
      have HX2 := Lib.hid (hX1.far (fun e => hgs e.symm) (.int .i64 7) (i := o + 24))
      have HC2 := Lib.hid (hC1.trans (Chg.set (S := fun k => k = g) W1 g (o + 24) (.int .i64 7) rfl) (fun _ _ h => h))
      have HP2 := Lib.hid hp2
      have ho := hT.at'
      have HK2 := Lib.hid hK1
      clear hW1 hH1 hg1 hC1 hX1 hH2 hp2 hv hK1 HC HX hT hKL
      go_upto_region 9 with (fail)
      refine region_turns (fun (w' : World) => True) (fun j => decide (8 ≤ j)) (by kernel_rfl) (trivial) (fun hS => ?_)
      refine Turns.take hS 0 _ rfl (by kernel_rfl) (by kernel_rfl) (by kernel_rfl) (by kernel_rfl) (fun _ _ _ h => h) (by rfl) (fun w' hS' => by (try dsimp only at hS'); go_split_ands; go_simp; (try with_reducible rfl)) ?_
      simp only [Act.put, List.getElem_toArray, List.getElem_cons_succ, List.getElem_cons_zero, List.setIfInBounds_toArray, List.set_cons_zero, List.set_cons_succ]
      refine Turns.take hS 1 _ rfl (by kernel_rfl) (by kernel_rfl) (by kernel_rfl) (by kernel_rfl) (fun _ _ _ h => h) (by rfl) (fun w' hS' => by (try dsimp only at hS'); go_split_ands; go_simp; (try with_reducible rfl)) ?_
      simp only [Act.put, List.getElem_toArray, List.getElem_cons_succ, List.getElem_cons_zero, List.setIfInBounds_toArray, List.set_cons_zero, List.set_cons_succ]
      refine Turns.take hS 2 _ rfl (by kernel_rfl) (by kernel_rfl) (by kernel_rfl) (by kernel_rfl) (fun _ _ _ h => h) (by rfl) (fun w' hS' => by (try dsimp only at hS'); go_split_ands; go_simp; (try with_reducible rfl)) ?_
      simp only [Act.put, List.getElem_toArray, List.getElem_cons_succ, List.getElem_cons_zero, List.setIfInBounds_toArray, List.set_cons_zero, List.set_cons_succ]
      refine Turns.take hS 3 _ rfl (by kernel_rfl) (by kernel_rfl) (by kernel_rfl) (by kernel_rfl) (fun _ _ _ h => h) (by rfl) (fun w' hS' => by (try dsimp only at hS'); go_split_ands; go_simp; (try with_reducible rfl)) ?_
      simp only [Act.put, List.getElem_toArray, List.getElem_cons_succ, List.getElem_cons_zero, List.setIfInBounds_toArray, List.set_cons_zero, List.set_cons_succ]
      refine Turns.take hS 4 _ rfl (by kernel_rfl) (by kernel_rfl) (by kernel_rfl) (by kernel_rfl) (fun _ _ _ h => h) (by rfl) (fun w' hS' => by (try dsimp only at hS'); go_split_ands; go_simp; (try with_reducible rfl)) ?_
      simp only [Act.put, List.getElem_toArray, List.getElem_cons_succ, List.getElem_cons_zero, List.setIfInBounds_toArray, List.set_cons_zero, List.set_cons_succ]
      refine Turns.take hS 5 _ rfl (by kernel_rfl) (by kernel_rfl) (by kernel_rfl) (by kernel_rfl) (fun _ _ _ h => h) (by rfl) (fun w' hS' => by (try dsimp only at hS'); go_split_ands; go_simp; (try with_reducible rfl)) ?_
      simp only [Act.put, List.getElem_toArray, List.getElem_cons_succ, List.getElem_cons_zero, List.setIfInBounds_toArray, List.set_cons_zero, List.set_cons_succ]
      refine Turns.take hS 6 _ rfl (by kernel_rfl) (by kernel_rfl) (by kernel_rfl) (by kernel_rfl) (fun _ _ _ h => h) (by rfl) (fun w' hS' => by (try dsimp only at hS'); go_split_ands; go_simp; (try with_reducible rfl)) ?_
      simp only [Act.put, List.getElem_toArray, List.getElem_cons_succ, List.getElem_cons_zero, List.setIfInBounds_toArray, List.set_cons_zero, List.set_cons_succ]
      refine Turns.take hS 7 _ rfl (by kernel_rfl) (by kernel_rfl) (by kernel_rfl) (by kernel_rfl) (fun _ _ _ h => h) (by rfl) (fun w' hS' => by (try dsimp only at hS'); go_split_ands; go_simp; (try with_reducible rfl)) ?_
      simp only [Act.put, List.getElem_toArray, List.getElem_cons_succ, List.getElem_cons_zero, List.setIfInBounds_toArray, List.set_cons_zero, List.set_cons_succ]
      refine Turns.rest (late_done (by kernel_rfl)) ?_
      refine any_tail 8 (by rfl) (by kernel_rfl) ?_
      simp only [List.drop_succ_cons, List.drop_zero]
      clear hS
      go_upto_region 11 with (fail)
      obtain ⟨W2, hW2⟩ : ∃ W2, W1.setCell ⟨g, o + 24, none⟩ (.int .i64 7) = W2 := ⟨_, rfl⟩
      obtain ⟨m, hm⟩ : ∃ m : Nat, 7 = m := ⟨_, rfl⟩
      rw [hW2] at HH2 HX2 HC2 ⊢
      rw [hm] at HH2
      have hp3 := HP2.out
      rw [hm] at hp3
      have HP2 := Lib.hid hp3
      have hm8 : m < 8 := by omega
      obtain ⟨K2, hK2⟩ : ∃ K2, K.drop 1 ++ [v] = K2 := ⟨_, rfl⟩
      rw [hK2] at HH2 HP2 HK2
      clear hW2 hm hcp hc1 hf1 h8 hp3 hK2 hct
    case' neg =>
      have hm8 : L.length < 8 := by omega
      have hp2 : (K.set L.length (a, b, c)).take (L.length + 1) = pushL L (a, b, c) := by
        unfold pushL
        rw [if_neg h8, List.take_succ_eq_append_getElem (by rw [List.length_set, hT.eight]; omega), List.take_set_of_le (Nat.le_refl _), hT.is]
        simp
      have HH2 := Lib.hid hT.holds
      have HX2 := HX
      have HC2 := HC
      have HP2 := Lib.hid hp2
      have ho := hT.at'
      have HK2 := Lib.hid hT.eight
      obtain ⟨m, hm⟩ : ∃ m : Nat, L.length = m := ⟨_, rfl⟩
      rw [hm] at HH2 HP2 hm8 hct
      have h8' : ((m : Int) == 8) = false := by simp; omega
      obtain ⟨K2, hK2⟩ : ∃ K2, K = K2 := ⟨_, rfl⟩
      rw [hK2] at HH2 HP2 HK2
      clear hp2 hT HX HC h8 hK2
      have HM := Lib.hid hm
      clear hm
      go_upto_region 11 with (fail)
      obtain ⟨W2, hW2⟩ : ∃ W2, W0 = W2 := ⟨_, rfl⟩
      rw [hW2] at HH2 HX2 HC2 ⊢
      clear hW2 h8' hct HM
    all_goals
      have h0 := HX2.out.cell 0
      have h1 := HX2.out.cell 1
      have h2 := HX2.out.cell 2
      have hct : W2.cell? ⟨g, o + 24, none⟩ = some (.int .i64 (m : Int)) := by rw [HH2.out.cell, List.getElem?_toArray, tcs_num HK2.out ho]
      have hm0 : (m : Int) < 8 := by omega
      have em : IntKind.i64.wrap (m : Int) = (m : Int) := IntWalk.i64_in _ (by omega)
      have em1 : IntKind.i64.wrap ((m : Int) + 1) = (m : Int) + 1 := IntWalk.i64_in _ (by omega)
      have hd2 := HH2.out.drewN 1
      obtain ⟨W3, hW3⟩ : ∃ W3, W2.drew.setRow g (splice (tcs pre post K2 (m : Int)) (o + m * 3) [.int .i64 a, .int .i64 b, .int .i64 c]).toArray = W3 := ⟨_, rfl⟩
      have hH3 : Holds W3 g t (tcs pre post (K2.set m (a, b, c)) (m : Int)).toArray := by
        have := hd2.row (splice (tcs pre post K2 (m : Int)) (o + m * 3) [.int .i64 a, .int .i64 b, .int .i64 c]).toArray
        rw [← tcs_put HK2.out ho hm8, ← hW3]
        exact this
      have hC3 : Chg (fun k => k = g) w W3 := by
        rw [← hW3]
        exact (HC2.out.drewN 1).trans (Chg.of_grown (grown_row _ g _) (fun k e => by cases e; rfl)) (fun _ _ h => h)
      have hK3 : (K2.set m (a, b, c)).length = 8 := by rw [List.length_set]; exact HK2.out
      have hct3 : W3.cell? ⟨g, o + 24, none⟩ = some (.int .i64 (m : Int)) := by rw [hH3.cell, List.getElem?_toArray, tcs_num hK3 ho]
      have hf3 := hH3.soft (o + 24)
      have hl : (pushL L (a, b, c)).length = m + 1 := by rw [← HP2.out, List.length_take, hK3]; omega
      have hend : Added g o t pre post L (a, b, c) w (.returned (.int .i64 0)) (W3.setCell ⟨g, o + 24, none⟩ (.int .i64 ((m : Int) + 1))) := by
        refine ⟨rfl, ⟨K2.set m (a, b, c), ho, hK3, by omega, by rw [hl]; exact HP2.out, ?_⟩, hC3.trans (Chg.set (S := fun k => k = g) W3 g (o + 24) _ rfl) (fun _ _ h => h)⟩
        have := hH3.put (o + 24) (.int .i64 ((m : Int) + 1))
        rw [tcs_count hK3 ho] at this
        rw [hl]
        exact this
      have hfit : o + m * 3 + 3 ≤ (tcs pre post K2 (m : Int)).length := by rw [tcs_len HK2.out ho]; omega
      have HF := Lib.hid hfit
      have HD2 := Lib.hid hd2
      have HE := Lib.hid hend
      have HW := Lib.hid hW3
      clear HH2 HX2 HC2 HP2 HK2 hd2 hH3 hC3 hK3 hl hend hW3 hfit hle ho
      refine region_turns (fun (w' : World) => w'.cell? ⟨g, o + 24, none⟩ = some (.int .i64 (m : Int)) ∧ w'.cell? ⟨s, 0, none⟩ = some (.int .i64 a) ∧ w'.cell? ⟨s, 1, none⟩ = some (.int .i64 b) ∧ w'.cell? ⟨s, 2, none⟩ = some (.int .i64 c)) (fun j => decide (9 ≤ j)) (by kernel_rfl) (⟨hct, h0, h1, h2⟩) (fun hS => ?_)
      refine Turns.take hS 0 _ rfl (by kernel_rfl) (by kernel_rfl) (by kernel_rfl) (by kernel_rfl) (fun _ _ _ h => h) (by rfl) (fun w' hS' => by (try dsimp only at hS'); go_split_ands; go_simp; (try with_reducible rfl)) ?_
      simp only [Act.put, List.getElem_toArray, List.getElem_cons_succ, List.getElem_cons_zero, List.setIfInBounds_toArray, List.set_cons_zero, List.set_cons_succ]
      refine Turns.take hS 1 _ rfl (by kernel_rfl) (by kernel_rfl) (by kernel_rfl) (by kernel_rfl) (fun _ _ _ h => h) (by rfl) (fun w' hS' => by (try dsimp only at hS'); go_split_ands; go_simp; (try with_reducible rfl)) ?_
      simp only [Act.put, List.getElem_toArray, List.getElem_cons_succ, List.getElem_cons_zero, List.setIfInBounds_toArray, List.set_cons_zero, List.set_cons_succ]
      refine Turns.take hS 2 _ rfl (by kernel_rfl) (by kernel_rfl) (by kernel_rfl) (by kernel_rfl) (fun _ _ _ h => h) (by rfl) (fun w' hS' => by (try dsimp only at hS'); go_split_ands; go_simp; (try with_reducible rfl)) ?_
      simp only [Act.put, List.getElem_toArray, List.getElem_cons_succ, List.getElem_cons_zero, List.setIfInBounds_toArray, List.set_cons_zero, List.set_cons_succ]
      refine Turns.take hS 3 _ rfl (by kernel_rfl) (by kernel_rfl) (by kernel_rfl) (by kernel_rfl) (fun _ _ _ h => h) (by rfl) (fun w' hS' => by (try dsimp only at hS'); go_split_ands; go_simp; (try with_reducible rfl)) ?_
      simp only [Act.put, List.getElem_toArray, List.getElem_cons_succ, List.getElem_cons_zero, List.setIfInBounds_toArray, List.set_cons_zero, List.set_cons_succ]
      refine Turns.take hS 4 _ rfl (by kernel_rfl) (by kernel_rfl) (by kernel_rfl) (by kernel_rfl) (fun _ _ _ h => h) (by rfl) (fun w' hS' => by (try dsimp only at hS'); go_split_ands; go_simp; (try with_reducible rfl)) ?_
      simp only [Act.put, List.getElem_toArray, List.getElem_cons_succ, List.getElem_cons_zero, List.setIfInBounds_toArray, List.set_cons_zero, List.set_cons_succ]
      refine Turns.take hS 5 _ rfl (by kernel_rfl) (by kernel_rfl) (by kernel_rfl) (by kernel_rfl) (fun _ _ _ h => h) (by rfl) (fun w' hS' => by (try dsimp only at hS'); go_split_ands; go_simp; (try with_reducible rfl)) ?_
      simp only [Act.put, List.getElem_toArray, List.getElem_cons_succ, List.getElem_cons_zero, List.setIfInBounds_toArray, List.set_cons_zero, List.set_cons_succ]
      refine Turns.take hS 6 _ rfl (by kernel_rfl) (by kernel_rfl) (by kernel_rfl) (by kernel_rfl) (fun _ _ _ h => h) (by rfl) (fun w' hS' => by (try dsimp only at hS'); go_split_ands; go_simp; (try with_reducible rfl)) ?_
      simp only [Act.put, List.getElem_toArray, List.getElem_cons_succ, List.getElem_cons_zero, List.setIfInBounds_toArray, List.set_cons_zero, List.set_cons_succ]
      refine Turns.take hS 7 _ rfl (by kernel_rfl) (by kernel_rfl) (by kernel_rfl) (by kernel_rfl) (fun _ _ _ h => h) (by rfl) (fun w' hS' => by (try dsimp only at hS'); go_split_ands; go_simp; (try with_reducible rfl)) ?_
      simp only [Act.put, List.getElem_toArray, List.getElem_cons_succ, List.getElem_cons_zero, List.setIfInBounds_toArray, List.set_cons_zero, List.set_cons_succ]
      refine Turns.take hS 8 _ rfl (by kernel_rfl) (by kernel_rfl) (by kernel_rfl) (by kernel_rfl) (fun _ _ _ h => h) (by rfl) (fun w' hS' => by (try dsimp only at hS'); go_split_ands; go_simp; (try with_reducible rfl)) ?_
      simp only [Act.put, List.getElem_toArray, List.getElem_cons_succ, List.getElem_cons_zero, List.setIfInBounds_toArray, List.set_cons_zero, List.set_cons_succ]
      refine Turns.rest (late_done (by kernel_rfl)) ?_
      refine any_tail 9 (by rfl) (by kernel_rfl) ?_
      simp only [List.drop_succ_cons, List.drop_zero]
      clear hS
      refine wpList_store_at rfl 42 (.tmp 54) (.tmp 51) rfl g (o + m * 3) [.int .i64 a, .int .i64 b, .int .i64 c] rfl rfl t _ HD2.out (by kernel_rfl) HF.out (by simp [Value.oneCell']) ?_
      rw [HW.out]
      clear HW HF HD2 hct h0 h1 h2
      go_wp2
      go_ret
      exact HE.out
end Go.Proofs.Ytgmeakcfiaopcaa

/- Ranges over functions: what an iterator over a block of its own keeps; structs loaded and stored whole within such a walk. Nothing here speaks of one program. -/
namespace Go.Proofs.Ytgmeakcfiaopcaa
open Go.RowKit Go.Shelf
set_option linter.unusedVariables false

/-- Cells of blocks from n on lie as they lay. -/
def Kept (n : Nat) (W W' : World) : Prop := W.heap.size ≤ W'.heap.size ∧ ∀ k cs t fr, n ≤ k → W.heap[k]? = some (Obj.cells cs t fr) → W'.heap[k]? = W.heap[k]?
theorem kept_t {n : Nat} {A B C : World} (h : Kept n A B) (k : Kept n B C) : Kept n A C :=
  ⟨Nat.le_trans h.1 k.1, fun i cs t fr hi hc => (k.2 i cs t fr hi ((h.2 i cs t fr hi hc).trans hc)).trans (h.2 i cs t fr hi hc)⟩
theorem kept_r (n : Nat) (W : World) : Kept n W W := ⟨Nat.le_refl _, fun _ _ _ _ _ _ => rfl⟩
theorem kept_b {n m : Nat} (hn : n ≤ m) (W : World) (l : Nat) (o o' : Obj) (hl : m ≤ l) (h : W.heap[l]? = some o) (hc : o.isCells = false) (_ : o.isWalk = false) : Kept n W (W.putObj l o') := by
  have hg := grownBy_putObj' W l o'
  refine ⟨hg.size, fun k cs t fr hk hcs => hg.block k (Array.getElem?_eq_some_iff.1 hcs).1 (fun e => ?_)⟩
  cases e
  rw [h] at hcs
  simp only [Option.some.injEq] at hcs
  subst hcs
  cases hc
theorem kept_chg {n : Nat} {S : Nat → Prop} {w w' : World} (hc : Chg S w w') (hS : ∀ k, S k → k < n) : Kept n w w' := ⟨hc.size, fun k cs t fr hk hcs => hc.block k (Array.getElem?_eq_some_iff.1 hcs).1 (fun e => by have := hS k e; omega)⟩
theorem kept_below {n : Nat} {w w' : World} (h : Below w.heap.size w w') : Kept n w w' := ⟨h.size, fun k cs t fr _ hcs => h.block k (Array.getElem?_eq_some_iff.1 hcs).1⟩
theorem Holds.kept {n : Nat} {W W' : World} {g : Nat} {t : TypeId} {cs : Array Value} (h : Holds W g t cs) (hk : Kept n W W') (hn : n ≤ g) : Holds W' g t cs := (hk.2 g _ _ _ hn h).trans h
theorem grown_below {w w' : World} (hb : Below w.heap.size w w') : w.grownBy w' none := ⟨hb.os, hb.tape, hb.output, hb.size, fun k hk _ => hb.block k hk⟩

section
variable {F : Fence} {n : Nat} {P : Program}
theorem wpListIn_load_at {ops : Array Oper} {rest : List Oper} {o : Oper} {a : Act} {w : World} {Q : Exit → Act → World → Prop} (hro : F.round = none) (hgd : o.guard = none) (ty : TypeId) (x : Operand) (ho : o.op = .load ty x)
    (g off : Nat) (hx : a.eval x = .pointer (some ⟨g, off, none⟩)) (t : TypeId) (cur : Array Value) (cs : List Value) (d : TypeDesc) (hg : Holds w g t cur) (hcs : ∀ j v, cs[j]? = some v → cur[off + j]? = some v)
    (hu : P.underlying ty = some d) (hd : (match d with | .struct _ | .array _ _ => true | _ => false) = true) (hi : (P.info? ty).map (·.size) = some cs.length)
    (h : wpListIn F n P ops Q rest (a.put o.dst (.agg cs.toArray)) w) : wpListIn F n P ops Q (o :: rest) a w :=
  wpListIn_plain hgd fun _ hK => by
    refine ⟨fun f hf => by simp [Oper.about, ho] at hf, ?_⟩
    rw [hro]
    show o.uponIn F n P a _ Q ((execOp a.eval o).run P w)
    unfold execOp
    simp only [ho, hx, Instr.loadAt, Instr.sureAddr, Sem.run_bind, Sem.run_pure, Result.andThen_ok, run_loadVar_at w g off t ty cur cs d hg hcs hu hd hi]
    exact hK _ _ h
/-- A struct that was loaded whole, stored whole into a new block. -/
theorem wpListIn_store_new {ops : Array Oper} {rest : List Oper} {o : Oper} {a : Act} {w : World} {Q : Exit → Act → World → Prop} (hro : F.round = none) (hgd : o.guard = none) (ty : TypeId) (x y : Operand) (ho : o.op = .store ty x y)
    (g : Nat) (cells : List Value) (hx : a.eval x = .pointer (some ⟨g, 0, none⟩)) (hy : a.eval y = .agg cells.toArray)
    (t : TypeId) (cur : List Value) (hg : Holds w g t cur.toArray) (hi : (P.info? ty).map (·.size) = some cells.length)
    (hfit : cells.length = cur.length) (h1 : ∀ v ∈ cells, v.oneCell' = true) (W1 : World) (hW1 : w.setRow g cells.toArray = W1)
    (h : wpListIn F n P ops Q rest (a.put o.dst undef) W1) : wpListIn F n P ops Q (o :: rest) a w :=
  wpListIn_plain hgd fun _ hK => by
    refine ⟨fun f hf => by simp [Oper.about, ho] at hf, ?_⟩
    rw [hro]
    show o.uponIn F n P a _ Q ((execOp a.eval o).run P w)
    have hs := run_storeVar_at (P := P) w g 0 t ty cur cells hg hi (by omega) h1
    rw [splice_all _ _ hfit, hW1] at hs
    unfold execOp
    simp only [ho, hx, hy, Instr.storeAt, Instr.sureAddr, Sem.run_bind, Sem.run_pure, Result.andThen_ok, hs]
    exact hK _ _ h
end
end Go.Proofs.Ytgmeakcfiaopcaa

/- Package table: what All goes over. -/
namespace Go.Proofs.Ytgmeakcfiaopcaa
open Go.RowKit Go.Shelf
set_option linter.unusedVariables false
set_option linter.unusedSimpArgs false
attribute [local go_sem] Oper.semAt_some

/-- All: the table's pointer is boxed; the function value captures the box. -/
theorem all_any (w : World) (p : Option Addr) :
    Calls Try.prog 59 #[.pointer p] w fun e w' => e = .returned (.func (.func 66) #[] #[.pointer (some ⟨w.heap.size, 0, none⟩)]) ∧ w' = w.alloc (.cells #[.pointer p] 97) := by
  go_enter Try.func59, Try.ntmps59
  go_wp2
  go_ret
  exact ⟨rfl, rfl⟩
/-- A table, or a nil one. -/
def Src (w : World) (q : Option Addr) (L : List Ent) : Prop := (q = none ∧ L = []) ∨ ∃ g o t pre post, q = some ⟨g, o, none⟩ ∧ Tb w g o t pre post L
theorem Src.below {w w' : World} {q : Option Addr} {L : List Ent} (h : Src w q L) (hb : Below w.heap.size w w') : Src w' q L := by
  rcases h with h | ⟨g, o, t, pre, post, e, h⟩
  · exact .inl h
  · exact .inr ⟨g, o, t, pre, post, e, h.below hb⟩
theorem Src.le {w : World} {q : Option Addr} {L : List Ent} (h : Src w q L) : L.length ≤ 8 := by
  rcases h with ⟨_, rfl⟩ | ⟨g, o, t, pre, post, e, h⟩
  · exact Nat.zero_le _
  · exact h.le
theorem Src.nil (w : World) : Src w none [] := .inl ⟨rfl, rfl⟩
theorem Tb.src {w : World} {g o : Nat} {t : TypeId} {pre post : List Value} {L : List Ent} (h : Tb w g o t pre post L) : Src w (some ⟨g, o, none⟩) L := .inr ⟨g, o, t, pre, post, rfl, h⟩

/-- An entry as All tells it. -/
def entA (x : Ent) : Array Value := #[.agg #[.int .i64 x.1, .int .i64 x.2.1, .int .i64 x.2.2]]
theorem tcs_one (K : List Ent) (n : Int) : ∀ v ∈ trs K ++ [Value.int .i64 n], v.oneCell' = true := fun v hv => by
  rcases List.mem_append.1 hv with h | h
  · exact trs_one K v h
  · simp only [List.mem_singleton] at h
    subst h
    rfl
theorem tcs_load {pre post : List Value} {K : List Ent} {n : Int} {o : Nat} (hK : K.length = 8) (ho : pre.length = o) : ∀ j v, (trs K ++ [Value.int .i64 n])[j]? = some v → (tcs pre post K n).toArray[o + j]? = some v := fun j v hv => by
  have hj := (List.getElem?_eq_some_iff.1 hv).1
  unfold tcs
  rw [List.getElem?_toArray, ← ho, get_mid _ _ _ _ hj, hv]
set_option maxRecDepth 100000 in
set_option maxHeartbeats 2000000 in
theorem all1_stops (n : Nat) (hn : 1 ≤ n) (p n₀ : Nat) (q : Option Addr) (L : List Ent) (w : World) (h : Src w q L) (hp : w.cell? ⟨p, 0, none⟩ = some (.pointer q)) (hn₀ : n₀ ≤ w.heap.size) :
    SeqStopsK Fence.wide n Try.prog 66 #[.pointer (some ⟨p, 0, none⟩)] entA (Kept n₀) (fun ys => ys = L) (fun pre => pre <+: L) L.length w := fun l J Jx W hW hJ hJx hY h0 => by
  have hpw : p < w.heap.size := block_lt hp
  have hp1 : W.cell? ⟨p, 0, none⟩ = some (.pointer q) := (hW.cell (p := ⟨p, 0, none⟩) hpw).trans hp
  have hsz := hW.size
  have hS := h.below hW
  have H0 := Lib.hid h0
  have HY := Lib.hid hY
  have HJ := Lib.hid hJ
  clear hp hW h0 hY hJ h
  refine callsIn_of_wp Try.func66 rfl trivial ?_ rfl
  simp only [Try.ntmps66, List.size_toArray, List.length_cons, List.length_nil, Nat.reduceAdd, Nat.reduceSub, Array.replicate_succ, Array.replicate_zero, List.push_toArray, List.append_toArray, List.nil_append, List.cons_append]
  rcases hS with ⟨rfl, rfl⟩ | ⟨g, o, t, pre, post, rfl, K, hT⟩
  · gi_wp2
    refine bodyPost_ret (results_none rfl _ _ _) rfl ?_
    exact ⟨⟨_, rfl⟩, .inl ⟨_, rfl, H0.out⟩⟩
  · have hmid := tcs_mid (n := (L.length : Int)) hT.eight
    have hle := hT.le
    have hle2 : (L.length : Int) ≤ 8 := by omega
    have hal : Try.prog.arrayLen 61 = 8 := by kernel_rfl
    have hnn : (0 : Int) ≤ (L.length : Int) := Int.natCast_nonneg _
    have HLD := Lib.hid (tcs_load (n := (L.length : Int)) (post := post) hT.eight hT.at')
    have HG := Lib.hid hT.holds
    have HM := Lib.hid (show (Try.prog.info? 63).map (·.size) = some (trs K ++ [Value.int .i64 (L.length : Int)]).length by rw [hmid]; kernel_rfl)
    have HM2 := Lib.hid (show (trs K ++ [Value.int .i64 (L.length : Int)]).length = zeroT.length by rw [hmid]; rfl)
    have HO := Lib.hid (tcs_one K (L.length : Int))
    obtain ⟨W1, hW1⟩ : ∃ W1, (W.alloc (.cells zeroT.toArray 63)).setRow W.heap.size (trs K ++ [Value.int .i64 (L.length : Int)]).toArray = W1 := ⟨_, rfl⟩
    have hb1 : Below W.heap.size W W1 := by
      rw [← hW1]
      exact (below_alloc W _).grown (grown_row _ W.heap.size _) (by simp) (fun k e => by cases e; exact Nat.le_refl _)
    have hh1 : Holds W1 W.heap.size 63 (trs K ++ [Value.int .i64 (L.length : Int)]).toArray := by
      rw [← hW1]
      exact (Holds.new W 63 zeroT.toArray).row _
    have hT1 : T0 W1 W.heap.size 0 63 [] [] K L := ⟨rfl, hT.eight, hT.le, hT.is, by unfold tcs; rw [List.nil_append, List.append_nil]; exact hh1⟩
    have hc1 := hT1.count
    rw [Nat.zero_add] at hc1
    have hj1 : J [] W1 := HJ.out _ _ _ none H0.out (grown_below hb1) (fun r e => by cases e)
    have HE1 := Lib.hid hT1
    have HJ1 := Lib.hid hj1
    have HW1 := Lib.hid hW1
    have hbW : n₀ ≤ W.heap.size := Nat.le_trans hn₀ hsz
    obtain ⟨cells, hcells⟩ : ∃ cells, trs K ++ [Value.int .i64 (L.length : Int)] = cells := ⟨_, rfl⟩
    rw [hcells] at HLD HM HM2 HO HW1
    clear hT hmid hcells hh1 hT1 hb1 hj1 hW1 H0
    gi_wp2_with (first
      | (refine wpListIn_load_at rfl rfl 63 (.tmp 9) rfl g o rfl t _ cells _ HG.out HLD.out Try.underlying63 rfl HM.out ?_)
      | (refine wpListIn_store_new rfl rfl 63 (.tmp 3) (.tmp 10) rfl W.heap.size cells rfl rfl 63 zeroT (Holds.new W _ _) HM.out HM2.out HO.out W1 HW1.out ?_))
    clear HLD HG HM HM2 HO HW1 hc1 hal hle2 hnn
    gi_loopw [16] (fun i wr => ∃ k : Nat, k ≤ L.length ∧ i = .int .i64 k ∧ J (L.take k) wr ∧ T0 wr W.heap.size 0 63 [] [] K L) (fun i _ => L.length - (intOf i).toNat)
    case atStart => exact ⟨0, Nat.zero_le _, rfl, by rw [List.take_zero]; exact HJ1.out, HE1.out⟩
    case round =>
      obtain ⟨k, hk, rfl, hJs, hes⟩ := hrel
      by_cases hlt : k < L.length
      · obtain ⟨x, hx⟩ : ∃ x, L[k]? = some x := ⟨_, List.getElem?_eq_getElem hlt⟩
        obtain ⟨q0, q1, q2⟩ := hes.at hx
        rw [Nat.zero_add] at q0 q1 q2
        have hnext : L.take (k + 1) = L.take k ++ [x] := by
          rw [List.take_succ_eq_append_getElem hlt]
          rw [List.getElem?_eq_getElem hlt] at hx
          cases hx
          rfl
        obtain ⟨a, b, c⟩ := x
        dsimp only at q0 q1 q2
        have hJ2 := HJ.out _ _ _ none hJs (World.grownBy_alloc wr (.cells #[.int .i64 a, .int .i64 b, .int .i64 c] 42) none) (fun r e => by cases e)
        have HE2 := Lib.hid (hes.chg (Chg.of_below (fun _ => False) (below_alloc wr (.cells #[.int .i64 a, .int .i64 b, .int .i64 c] 42))) id)
        have HX := Lib.hid hnext
        obtain ⟨fn, tmps, assign, body, hy, hR⟩ := HY.out (L.take k) (a, b, c) _ hJ2 (by rw [List.length_take]; omega)
        have HR := Lib.hid hR
        clear hx hnext hJs hes hJ2 hR
        change (Instr.yield l #[Value.agg #[Value.int .i64 a, Value.int .i64 b, Value.int .i64 c]]).run Try.prog _ = _ at hy
        gi_wp2
        refine HR.out.mono ?_
        rintro e W3 (⟨rfl, hJ3, hk3⟩ | ⟨rfl, hJx3⟩)
        · have HJ3 := Lib.hid hJ3
          have HE3 := Lib.hid (show T0 W3 W.heap.size 0 63 [] [] K L from { HE2.out with holds := HE2.out.holds.kept hk3 hbW })
          clear hJ3 hk3
          gi_wp2
          go_roundw
          case rel => exact ⟨k + 1, by omega, by go_num, by rw [HX.out]; exact HJ3.out, HE3.out⟩
          case measure => simp [intOf]; omega
        · have HJ3 := Lib.hid hJx3
          clear hJx3
          gi_wp2
          refine bodyPost_ret (results_none rfl _ _ _) rfl ?_
          exact ⟨⟨_, rfl⟩, .inr ⟨_, List.take_prefix (k + 1) L, by rw [HX.out]; exact HJ3.out⟩⟩
      · have hkl : k = L.length := by omega
        have hall : L.take k = L := List.take_of_length_le (by omega)
        rw [hall] at hJs
        have HJs := Lib.hid hJs
        clear hkl hall hJs hes
        gi_wp2
        go_end0
        exact ⟨⟨_, rfl⟩, .inl ⟨_, rfl, HJs.out⟩⟩
end Go.Proofs.Ytgmeakcfiaopcaa

/- Ranges over functions within a loop: the marks that they leave, one a round; what a walk's own blocks leave as it lay. Nothing here speaks of one program. -/
namespace Go.Proofs.Ytgmeakcfiaopcaa
set_option linter.unusedVariables false
open Go.RowKit

/-- Row: a block that is no cells, if there is one. -/
def NoCells (w : World) (row : Option Nat) : Prop := ∀ r, row = some r → ∃ o : Obj, w.heap[r]? = some o ∧ o.isCells = false
theorem Holds.turned {w w' : World} {g : Nat} {t : TypeId} {cs : Array Value} {row : Option Nat} (h : Holds w g t cs) (hg : w.grownBy w' row) (hr : NoCells w row) : Holds w' g t cs :=
  h.grown hg (fun e => by
    obtain ⟨o, ho, hc⟩ := hr _ e.symm
    rw [show w.heap[g]? = _ from h] at ho
    cases ho
    cases hc)
theorem others_of_chg {w w' : World} {S : Nat → Prop} (hc : Chg S w w') (hS : ∀ k, S k → ∃ cs t fr, w.heap[k]? = some (.cells cs t fr)) : KeepsOthers w w' :=
  ⟨hc.size, fun k o hk ho => (hc.block k (Array.getElem?_eq_some_iff.1 hk).1 (fun e => by
    obtain ⟨cs, t, fr, h⟩ := hS k e
    rw [h] at hk
    cases hk
    cases ho)).trans hk⟩
theorem others_of_below {w w' : World} (h : Below w.heap.size w w') : KeepsOthers w w' := ⟨h.size, fun k o hk _ => (h.block k (Array.getElem?_eq_some_iff.1 hk).1).trans hk⟩

/-- The marks of ranges that are over. -/
def mark (D : Nat) : Deferred := { target := .collected D, args := #[] }
def Marks (w : World) (lo hi : Nat) (Ds : List Nat) : Prop := Ds.Nodup ∧ ∀ D ∈ Ds, lo ≤ D ∧ D < hi ∧ w.heap[D]? = some (.deferred (some []))
theorem Marks.nil (w : World) (lo hi : Nat) : Marks w lo hi [] := ⟨List.nodup_nil, fun D h => by cases h⟩
theorem Marks.turned {w w' : World} {lo hi : Nat} {Ds : List Nat} {row : Option Nat} (h : Marks w lo hi Ds) (hg : w.grownBy w' row) (hr : ∀ r, row = some r → hi ≤ r) : Marks w' lo hi Ds :=
  ⟨h.1, fun D hD => ⟨(h.2 D hD).1, (h.2 D hD).2.1, (hg.block D (Array.getElem?_eq_some_iff.1 (h.2 D hD).2.2).1 (fun e => by have := hr _ e.symm; have := (h.2 D hD).2.1; omega)).trans (h.2 D hD).2.2⟩⟩
theorem Marks.others {w w' : World} {lo hi : Nat} {Ds : List Nat} (h : Marks w lo hi Ds) (hk : KeepsOthers w w') : Marks w' lo hi Ds :=
  ⟨h.1, fun D hD => ⟨(h.2 D hD).1, (h.2 D hD).2.1, hk.same D _ (h.2 D hD).2.2 rfl⟩⟩
theorem Marks.up {w : World} {lo hi hi' : Nat} {Ds : List Nat} (h : Marks w lo hi Ds) (hh : hi ≤ hi') : Marks w lo hi' Ds := ⟨h.1, fun D hD => ⟨(h.2 D hD).1, by have := (h.2 D hD).2.1; omega, (h.2 D hD).2.2⟩⟩
theorem Marks.cons {w : World} {lo hi D hi' : Nat} {Ds : List Nat} (h : Marks w lo hi Ds) (hlo : lo ≤ hi) (hD : hi ≤ D) (hd : w.heap[D]? = some (.deferred (some []))) (hh : D < hi') : Marks w lo hi' (D :: Ds) := by
  refine ⟨List.nodup_cons.2 ⟨fun hm => by have := (h.2 D hm).2.1; omega, h.1⟩, fun E hE => ?_⟩
  rcases List.mem_cons.1 hE with rfl | hE
  · exact ⟨by omega, hh, hd⟩
  · exact ⟨(h.2 E hE).1, by have := (h.2 E hE).2.1; omega, (h.2 E hE).2.2⟩
section
variable {P : Program} {F : Fence} {n : Nat} {fn : Func} {tmps : Array Value} {R : Ending → World → Prop} {I : World → Prop} {lo hi : Nat}
theorem leaves_marks (hI : ∀ W D, lo ≤ D → I W → W.heap[D]? = some (.deferred (some [])) → I (W.putObj D (.deferred none))) (hend : ∀ W, I W → LeavesInM F n P fn tmps R [] .returning W) :
    ∀ (Ds : List Nat) (W : World), Marks W lo hi Ds → I W → LeavesInM F n P fn tmps R (Ds.map mark) .returning W
  | [], W, _, h => hend W h
  | D :: Ds, W, hm, h => by
    obtain ⟨h1, _, h3⟩ := hm.2 D (List.mem_cons_self ..)
    refine ⟨by simp, .inl ⟨D, _, rfl, run_takeDeferred h3, leaves_marks hI hend Ds _ ?_ (hI W D h1 h h3)⟩⟩
    have hnd := List.nodup_cons.1 hm.1
    refine ⟨hnd.2, fun E hE => ?_⟩
    obtain ⟨e1, e2, e3⟩ := hm.2 E (List.mem_cons_of_mem _ hE)
    exact ⟨e1, e2, (World.putObj_heap_other (by intro e; subst e; exact hnd.1 hE)).trans e3⟩
end
end Go.Proofs.Ytgmeakcfiaopcaa

/- Ranges over functions whose element is boxed as each round begins (a struct that is a round's variable). Nothing here speaks of one program. -/
namespace Go.Proofs.Ytgmeakcfiaopcaa
open Go.RowKit
set_option linter.unusedVariables false
section
variable {F : Fence} {n : Nat} {P : Program} {w : World}
theorem range_boxed {α : Type} {g : Operand} {ps : Array Tmp} {assign body : Code} {Q : Exit → Act → World → Prop} {a : Act}
    (hro : F.round = none) (h1 : 1 ≤ n) {gf : Nat} {lb : Array Value} (hg : a.eval g = .func (.func gf) #[] lb) (hFg : F.fn gf) (eg : ∀ args w, (callFunc gf args).run P w = .ok (.enter gf args) w)
    {encs : α → Array Value} {Kp : World → World → Prop} {S Sp : List α → Prop} {N : Nat} {w0 : World} (hseq : SeqStopsK F (n - 1) P gf lb encs Kp S Sp N w0)
    (hKt : ∀ {A B C : World}, Kp A B → Kp B C → Kp A C) (hKb : ∀ (W : World) (l : Nat) (o o' : Obj), w.heap.size ≤ l → W.heap[l]? = some o → o.isCells = false → o.isWalk = false → Kp W (W.putObj l o')) (hKn : ∀ W W', Below W.heap.size W W' → Kp W W') (hb0 : Below w0.heap.size w0 w) (hps : ∀ x, (encs x).size = ps.size)
    (I : List α → World → Prop) (Ix : Code → List α → World → Prop) (hI : OwnFrom w.heap.size I) (hIx : ∀ c, OwnFrom w.heap.size (Ix c)) (h0 : I [] w) (bt : TypeId) (bcs : α → Array Value) (a₁ : α → Nat → Act)
    (hassign : ∀ (l : Nat) (x : α) (b : Nat) (W : World) (K : Act → World → Prop), W.heap.size = b → K (a₁ x b) (W.alloc (.cells (bcs x) bt)) →
      assign.wpIn (F.inRound l) (n - 1 - 1) P (Exit.then K (fun _ _ _ => False)) { tmps := (ps.zip (encs x)).foldl (fun t (p, v) => t.setIfInBounds p v) a.tmps, defers := [] } W)
    (hbody : ∀ (l : Nat) (pre : List α) (x : α) (b : Nat) (W : World), w.heap.size ≤ l → (∃ r, W.heap[l]? = some (.loop r)) → I pre W → Holds W b bt (bcs x) → pre.length < N → body.wpIn (F.inRound l) (n - 1 - 1) P (ownPostG w.heap.size Kp I Ix (pre ++ [x]) W) (a₁ x b) W)
    (hdone : ∀ (D : Nat) (xs : List α) (W : World), w.heap.size ≤ D → S xs → I xs W → W.heap[D]? = some (.deferred (some [])) → Q .normal { a with defers := { target := .collected D, args := #[] } :: a.defers } W)
    (hstop : ∀ (D : Nat) (c : Code) (pre : List α) (W : World), w.heap.size ≤ D → Sp pre → Ix c pre W → W.heap[D]? = some (.deferred (some [])) → c.wpIn F n P Q { a with defers := { target := .collected D, args := #[] } :: a.defers } W) :
    (Code.rangeFunc g ps assign body).wpIn F n P Q a w :=
  wpIn_rangeFunc_ownH hro h1 hg hFg eg hseq (fun h k => hKt h k) hKb hb0 hps I Ix hI hIx h0 (fun x a' W => ∃ b, a' = a₁ x b ∧ Holds W b bt (bcs x))
    (fun x a' s W W' row hs hg hr => by
      obtain ⟨b, e, h⟩ := hs
      exact ⟨b, e, h.turned hg (fun r e => (hr r e).2)⟩)
    (fun l pre x W K hi hK => hassign l x _ W K rfl (hK _ _ ((others_of_below (below_alloc W _)).from _) (hKn _ _ (below_alloc W _)) (hI.alloc _ hi) ⟨_, rfl, Holds.new W _ _⟩))
    (fun l pre x a' W hl hr hi e hlen => by
      obtain ⟨b, rfl, h⟩ := e
      exact hbody l pre x b W hl hr hi h hlen) hdone hstop
end
end Go.Proofs.Ytgmeakcfiaopcaa

/- Package table: Hops, List. -/
namespace Go.Proofs.Ytgmeakcfiaopcaa
open Go.RowKit Go.Shelf
set_option linter.unusedVariables false
set_option linter.unusedSimpArgs false
attribute [local go_sem] Oper.semAt_some

theorem wpListIn_append_known {F : Fence} {n : Nat} {P : Program} {w : World} {ops : Array Oper} {rest : List Oper} {o : Oper} {a : Act} {Q : Exit → Act → World → Prop}
    (hg : o.guard = none) (s x : Operand) (t : TypeId) (hop : o.op = Op.call { callee := Callee.builtin Builtin.append, args := #[s, x], argTypes := #[t, t] })
    (v u : Value) (hs : a.eval s = v) (hx : a.eval x = u) {v' : Value} {w' : World} (hr : (Builtin.append_ #[t, t] o.type #[v, u]).run P w = .ok v' w') (h : wpListIn F n P ops Q rest (a.put o.dst v') w') :
    wpListIn F n P ops Q (o :: rest) a w := by
  refine wpListIn_plain hg fun K hK' => ?_
  unfold Oper.wpIn
  refine ⟨?_, ?_⟩
  · simp [Oper.about, hop, resolve, Target.leads, Sem.run_pure]
  · rw [Oper.semAt_plain F _ _ (by rw [hop]; intro c hc'; cases hc')]
    simp [execOp, hop, resolve, invoke, builtin, hs, hx, hr, Result.andThen]
    exact hK' _ _ h

/-- The most of all. -/
def mostL (L : List Ent) : Int := L.foldl (fun m e => if m < e.2.2 then e.2.2 else m) 0
theorem mostL_snoc (L : List Ent) (e : Ent) : mostL (L ++ [e]) = if mostL L < e.2.2 then e.2.2 else mostL L := by
  unfold mostL
  rw [List.foldl_append]
  rfl

theorem run_max2 (a b : Int) (w : World) : (Builtin.max_ #[3, 3] 3 #[.int .i64 a, .int .i64 b]).run Try.prog w = .ok (.int .i64 (if a < b then b else a)) w := by
  simp [Builtin.max_, Builtin.max2, go_sem]
/-- Between two entries that Hops looks at. -/
structure HRun (w : World) (pre : List Ent) (W : World) : Prop where
  most : Holds W w.heap.size 3 #[.int .i64 (mostL pre)]
  below : Below w.heap.size w W
theorem HRun.turned {w : World} {pre : List Ent} {W W' : World} {row : Option Nat} (h : HRun w pre W) (hg : W.grownBy W' row) (hr : NoCells W row) (hb : ∀ k, row = some k → w.heap.size ≤ k) : HRun w pre W' :=
  ⟨h.most.turned hg hr, h.below.grown hg h.below.size hb⟩
theorem hops_leaves {n : Nat} {w : World} {W : World} {tmps : Array Value} {v : Int} {D : Nat} (hb : Below w.heap.size w W)
    (hD : w.heap.size ≤ D) (hDk : W.heap[D]? = some (.deferred (some []))) (t2 : tmps.getD 2 undef = .int .i64 v) :
    LeavesInM Fence.wide n Try.prog Try.f56 tmps (fun e w' => e = .returned (.int .i64 v) ∧ Below w.heap.size w w') [mark D] .returning W := by
  refine leaves_marks (I := fun W => Below w.heap.size w W) (lo := w.heap.size) (hi := D + 1) (fun W D' hD' hI hd => ?_) (fun W hI => ?_) [D] W ⟨by simp, fun E hE => by
    simp only [List.mem_cons, List.not_mem_nil, or_false] at hE
    subst hE
    exact ⟨hD, Nat.lt_succ_self _, hDk⟩⟩ hb
  · have hg := grownBy_putObj' W D' (.deferred none)
    exact hI.grown hg hI.size (fun k e => by cases e; exact hD')
  · refine ⟨.int .i64 v, ?_, rfl, hI⟩
    have t2' : tmps[2]?.getD undef = .int .i64 v := by simpa using t2
    simp [results, Try.f56, go_sem, t2']
set_option maxRecDepth 100000 in
set_option maxHeartbeats 4000000 in
theorem hops_any (w : World) (q : Option Addr) (L : List Ent) (h : Src w q L) :
    Calls Try.prog 56 #[.pointer q] w fun e w' => e = .returned (.int .i64 (mostL L)) ∧ Below w.heap.size w w' := by
  refine (callsIn_wide (n := 4)).1 ?_
  refine callsIn_of_wp_marks Try.func56 rfl trivial ?_ rfl
  simp only [Try.ntmps56, List.size_toArray, List.length_cons, List.length_nil, Nat.reduceAdd, Nat.reduceSub, Array.replicate_succ, Array.replicate_zero, List.push_toArray, List.append_toArray, List.nil_append, List.cons_append]
  have HS := Lib.hid h
  clear h
  gi_wp2_with (refine ⟨trivial, ?_⟩; gi_at_call 59; refine (callsIn_wide.2 (all_any _ q)).mono ?_; rintro e w' ⟨rfl, rfl⟩)
  have sR : ((w.alloc (.cells #[.int .i64 0] 3)).alloc (.cells #[.pointer q] 97)).heap.size = w.heap.size + 2 := by simp
  have b0 : HRun w [] ((w.alloc (.cells #[.int .i64 0] 3)).alloc (.cells #[.pointer q] 97)) := ⟨(Holds.new w _ _).alloc _, (below_alloc w _).alloc (by simp) _⟩
  have cR := (Holds.new (w.alloc (.cells #[.int .i64 0] 3)) 97 #[.pointer q]).cell 0
  rw [size_alloc] at cR
  have hS := HS.out.below b0.below
  obtain ⟨WR, hWR⟩ : ∃ WR, ((w.alloc (.cells #[.int .i64 0] 3)).alloc (.cells #[.pointer q] 97)) = WR := ⟨_, rfl⟩
  rw [hWR] at b0 cR sR hS
  simp only [hWR]
  clear hWR
  refine range_boxed rfl (by omega) (gf := 66) (lb := #[.pointer (some ⟨w.heap.size + 1, 0, none⟩)]) rfl trivial (enters_of Try.func66 (by kernel_rfl) rfl)
    (all1_stops _ (by omega) (w.heap.size + 1) (w.heap.size + 2) q L WR hS cR (by omega)) kept_t (fun W l o o' hl => kept_b (by omega) W l o o' hl) (fun _ _ h => kept_below h) (Below.refl _ _) (fun _ => rfl)
    (fun (pre : List Ent) W => HRun w pre W)
    (fun c pre W => False)
    (fun s W W' row hs hg hr => hs.turned hg (fun k e => (hr k e).2) (fun k e => by have := (hr k e).1; omega))
    (fun c s W W' row hs hg hr => hs)
    b0 42 (fun x => #[.int .i64 x.1, .int .i64 x.2.1, .int .i64 x.2.2]) ?a₁ ?assign ?body ?done ?stop
  case assign =>
    intro l y b W K hb hK
    simp only [entA]
    have HB := Lib.hid hb
    clear hb
    gi_wp2
    simp only [HB.out]
    exact hK
  case body =>
    rintro l pre y g W hl ⟨rc, hrc⟩ hrn he hlen
    obtain ⟨a, b, c⟩ := y
    dsimp only at he ⊢
    have c0 := hrn.most.cell 0
    have f0 := hrn.most.soft 0
    have c2 := he.cell 2
    have hmx := fun W => run_max2 (mostL pre) c W
    have hsn := mostL_snoc pre (a, b, c)
    dsimp only at hsn
    rw [← hsn] at hmx
    have hch := Chg.set (S := fun k => k = w.heap.size) W w.heap.size 0 (.int .i64 (mostL (pre ++ [(a, b, c)]))) rfl
    have HR := Lib.hid (show HRun w (pre ++ [(a, b, c)]) (W.setCell ⟨w.heap.size, 0, none⟩ (.int .i64 (mostL (pre ++ [(a, b, c)])))) from
      ⟨hrn.most.put 0 _, hrn.below.setCell (p := ⟨w.heap.size, 0, none⟩) (Nat.le_refl _) _⟩)
    have HK := Lib.hid (kept_chg (n := w.heap.size + 2) hch (fun k hk => by omega))
    have HO := Lib.hid (show KeepsFrom WR.heap.size W _ from (others_of_chg hch (fun k e => by subst e; exact ⟨_, _, _, hrn.most⟩)).from _)
    obtain ⟨M, hM⟩ : ∃ M, mostL (pre ++ [(a, b, c)]) = M := ⟨_, rfl⟩
    rw [hM] at HR HK HO
    simp only [hM] at hmx
    clear hrn hch hsn hM he
    gi_wp2
    exact ⟨HO.out, HK.out, HR.out⟩
  case done =>
    rintro D ys W hD rfl hrn hDk
    have c2 := hrn.most.cell 0
    have hB := hrn.below
    clear hrn
    gi_wp2
    exact hops_leaves hB (by omega) hDk rfl
  case stop =>
    rintro D c pre W hD hpre hf hDk
    exact hf.elim

theorem entry_info : (Try.prog.info? 42).map (fun i => (i.zero, i.size, i.bytes)) = some (some (.agg #[.int .i64 0, .int .i64 0, .int .i64 0]), 3, 24) := by kernel_rfl
theorem run_append_fits {P : Program} (w : World) (B : Nat) (t ty e : TypeId) (i : TypeInfo) (k : Nat) (ht : P.underlying t = some (.slice e)) (hi : P.info? e = some i) (hsize : i.size = k) (g n cap : Nat) (xs : List Value)
    (hown : w.ownsRow B e k (.slice (some ⟨g, 0, none⟩) n cap) n xs) (ad : Addr) (m c : Nat) (news : List Value) (hl : news.length = m * k) (hnews : ∀ j u, news[j]? = some u → w.cell? (ad.add j) = some u) (h1 : ∀ u ∈ news, u.oneCell' = true)
    (hroom : n + m ≤ cap) :
    ∃ w', (Builtin.append_ #[t, t] ty #[.slice (some ⟨g, 0, none⟩) n cap, .slice (some ad) m c]).run P w = .ok (.slice (some ⟨g, 0, none⟩) (n + m) cap) w' ∧ w'.ownsRow B e k (.slice (some ⟨g, 0, none⟩) (n + m) cap) (n + m) (xs ++ news) ∧ w.grownBy w' (some g) := by
  rcases own_open hown with ⟨e1, _, _⟩ | ⟨g', cap', cur, e1, hB, hH, hnc, hcm, hcl, hct⟩
  · cases e1
  · simp only [Value.slice.injEq, Option.some.injEq, Addr.mk.injEq, true_and, and_true] at e1
    obtain ⟨rfl, rfl⟩ := e1
    have hH' : w.heap[g]? = _ := hH
    subst hsize
    have hm : n * i.size + news.length ≤ cur.length := by rw [hl, hcl, ← Nat.add_mul]; exact Nat.mul_le_mul_right _ hroom
    have hr := run_append_room (P := P) w t ty e i ht hi g n cap cur.toArray hH' ad m c news hl hnews h1 hroom (by simpa using hm)
    refine ⟨_, hr, ?_, grown_row w g _⟩
    refine own_mk (hH.row _) hB hroom hcm (by simp; omega) ?_
    have e : (n + m) * i.size = (cur.take (n * i.size) ++ news).length := by rw [List.length_append, List.length_take, hl, Nat.min_eq_left (by omega), Nat.add_mul]
    simp only [hct] at *
    rw [e, List.take_left]
/-- A call answers a row of entries of its own. -/
def GaveEnts (w : World) (L : List Ent) (e : Ending) (w' : World) : Prop :=
  ∃ c, e = .returned (.slice (some ⟨w.heap.size, 0, none⟩) L.length c) ∧ w'.ownsRow w.heap.size 42 3 (.slice (some ⟨w.heap.size, 0, none⟩) L.length c) L.length (trs L) ∧ Below w.heap.size w w'
/-- Between two entries that List looks at. -/
structure LRun (w : World) (n : Nat) (pre : List Ent) (W : World) : Prop where
  fits : pre.length ≤ n
  var : Holds W (w.heap.size + 1) 100 #[.slice (some ⟨w.heap.size, 0, none⟩) pre.length n]
  row : W.ownsRow w.heap.size 42 3 (.slice (some ⟨w.heap.size, 0, none⟩) pre.length n) pre.length (trs pre)
  below : Below w.heap.size w W
theorem own_turned {w w' : World} {B : Nat} {e : TypeId} {v : Value} {m k : Nat} {xs : List Value} {row : Option Nat} (h : w.ownsRow B e k v m xs) (hg : w.grownBy w' row) (hr : NoCells w row) : w'.ownsRow B e k v m xs := by
  refine own_chg h (Chg.of_grown (S := fun k => row = some k) hg (fun k hk => hk)) (fun q hq e => ?_)
  obtain ⟨o, ho, hc⟩ := hr _ e
  rcases own_open h with ⟨e', _⟩ | ⟨g', cap, cur, e', _, hH, _⟩
  · rw [e'] at hq
    cases hq
  · rw [e'] at hq
    simp [Value.ownBlock] at hq
    subst hq
    rw [show w.heap[g']? = _ from hH] at ho
    cases ho
    cases hc
theorem LRun.turned {w : World} {n : Nat} {pre : List Ent} {W W' : World} {row : Option Nat} (h : LRun w n pre W) (hg : W.grownBy W' row) (hr : NoCells W row) (hb : ∀ k, row = some k → w.heap.size ≤ k) : LRun w n pre W' :=
  ⟨h.fits, h.var.turned hg hr, own_turned h.row hg hr, h.below.grown hg h.below.size hb⟩
theorem list_leaves {n : Nat} {w : World} {W : World} {tmps : Array Value} {v : Value} {L : List Ent} {c D : Nat} (hv : v = .slice (some ⟨w.heap.size, 0, none⟩) L.length c) (ho : W.ownsRow w.heap.size 42 3 v L.length (trs L)) (hb : Below w.heap.size w W)
    (hD : w.heap.size ≤ D) (hDk : W.heap[D]? = some (.deferred (some []))) (t2 : tmps.getD 2 undef = v) :
    LeavesInM Fence.wide n Try.prog Try.f55 tmps (GaveEnts w L) [mark D] .returning W := by
  refine leaves_marks (I := fun W => W.ownsRow w.heap.size 42 3 v L.length (trs L) ∧ Below w.heap.size w W) (lo := w.heap.size) (hi := D + 1) (fun W D' hD' hI hd => ?_) (fun W hI => ?_) [D] W ⟨by simp, fun E hE => by
    simp only [List.mem_cons, List.not_mem_nil, or_false] at hE
    subst hE
    exact ⟨hD, Nat.lt_succ_self _, hDk⟩⟩ ⟨ho, hb⟩
  · have hg := grownBy_putObj' W D' (.deferred none)
    exact ⟨own_turned hI.1 hg (fun k e => by cases e; exact ⟨_, hd, rfl⟩), hI.2.grown hg hI.2.size (fun k e => by cases e; exact hD')⟩
  · refine ⟨v, ?_, c, by rw [hv], by rw [← hv]; exact hI.1, hI.2⟩
    have t2' : tmps[2]?.getD undef = v := by simpa using t2
    simp [results, Try.f55, go_sem, t2']
theorem make_ents (n : Nat) (hn : n ≤ 8) (w : World) : ∃ cur : Array Value, cur.size = n * 3 ∧ (Instr.makeSlice 100 (.int .i64 0) (.int .i64 (n : Int))).run Try.prog w = .ok (.slice (some ⟨w.heap.size, 0, none⟩) 0 n) (w.alloc (.cells cur 42)) := by
  obtain ⟨i, hi, hzz⟩ := Option.map_eq_some_iff.1 entry_info
  simp only [Prod.mk.injEq] at hzz
  obtain ⟨hz, hs, hb⟩ := hzz
  have hr := run_make (P := Try.prog) w 100 42 i _ Try.underlying100 hi hz .i64 .i64 0 n (Int.le_refl _) (by omega) (by rw [hb]; omega) (by omega)
  simp only [Int.toNat_natCast, hs, Int.toNat_zero] at hr
  exact ⟨_, size_madeCells _ _, hr⟩
theorem src_len (w : World) (q : Option Addr) (L : List Ent) (h : Src w q L) : Calls Try.prog 44 #[.pointer q] w fun e w' => e = .returned (.int .i64 (L.length : Int)) ∧ w' = w := by
  rcases h with ⟨rfl, rfl⟩ | ⟨g, o, t, pre, post, rfl, h⟩
  · exact len_nil w
  · exact len_any w g o t pre post L h
set_option maxRecDepth 100000 in
set_option maxHeartbeats 4000000 in
theorem list_any (w : World) (q : Option Addr) (L : List Ent) (h : Src w q L) : Calls Try.prog 55 #[.pointer q] w (GaveEnts w L) := by
  refine (callsIn_wide (n := 4)).1 ?_
  refine callsIn_of_wp_marks Try.func55 rfl trivial ?_ rfl
  simp only [Try.ntmps55, List.size_toArray, List.length_cons, List.length_nil, Nat.reduceAdd, Nat.reduceSub, Array.replicate_succ, Array.replicate_zero, List.push_toArray, List.append_toArray, List.nil_append, List.cons_append]
  have hlen := src_len w q L h
  have hle := h.le
  obtain ⟨cur, hcur, hmk⟩ := make_ents L.length hle w
  have HS := Lib.hid h
  have HCu := Lib.hid hcur
  obtain ⟨n, hn⟩ : ∃ n, L.length = n := ⟨_, rfl⟩
  have HN := Lib.hid hn
  rw [hn] at hlen hle hmk HCu
  clear h hcur hn
  gi_wp2_with (first
    | (refine ⟨trivial, ?_⟩; gi_at_call 44; refine (callsIn_wide.2 hlen).mono ?_; rintro e wx ⟨rfl, hwx⟩; subst wx)
    | (refine ⟨trivial, ?_⟩; gi_at_call 59; refine (callsIn_wide.2 (all_any _ q)).mono ?_; rintro e w2 ⟨rfl, rfl⟩))
  have b0 : LRun w n [] (((w.alloc (.cells cur 42)).alloc (.cells #[.slice (some ⟨w.heap.size, 0, none⟩) 0 n] 100)).alloc (.cells #[.pointer q] 97)) := by
    have hb1 : Below w.heap.size w ((w.alloc (.cells cur 42)).alloc (.cells #[.slice (some ⟨w.heap.size, 0, none⟩) 0 n] 100)) := (below_alloc w _).alloc (by simp) _
    refine ⟨Nat.zero_le _, ?_, ?_, hb1.alloc (by simp; omega) _⟩
    · have := (Holds.new (w.alloc (.cells cur 42)) 100 #[.slice (some ⟨w.heap.size, 0, none⟩) 0 n]).alloc (.cells #[.pointer q] 97)
      rwa [size_alloc] at this
    · have := World.ownsRow_made (base := w.heap.size) (e := 42) (size := 3) w cur n (Nat.le_refl _) (by unfold maxLen; omega) HCu.out
      exact own_keep' this ((below_alloc _ _).trans ((below_alloc _ _).mono (by simp)))
  have sR : (((w.alloc (.cells cur 42)).alloc (.cells #[.slice (some ⟨w.heap.size, 0, none⟩) 0 n] 100)).alloc (.cells #[.pointer q] 97)).heap.size = w.heap.size + 3 := by simp
  have cR := (Holds.new ((w.alloc (.cells cur 42)).alloc (.cells #[.slice (some ⟨w.heap.size, 0, none⟩) 0 n] 100)) 97 #[.pointer q]).cell 0
  rw [size_alloc, size_alloc] at cR
  have hS := HS.out.below b0.below
  obtain ⟨WR, hWR⟩ : ∃ WR, (((w.alloc (.cells cur 42)).alloc (.cells #[.slice (some ⟨w.heap.size, 0, none⟩) 0 n] 100)).alloc (.cells #[.pointer q] 97)) = WR := ⟨_, rfl⟩
  rw [hWR] at b0 cR sR hS
  simp only [hWR]
  clear hWR hmk HCu hlen
  obtain ⟨i0, hi, H0⟩ : ∃ i, Try.prog.info? 42 = some i ∧ i.size = 3 := by
    obtain ⟨i, hi, hzz⟩ := Option.map_eq_some_iff.1 entry_info
    simp only [Prod.mk.injEq] at hzz
    exact ⟨i, hi, hzz.2.1⟩
  have HI := Lib.hid hi
  have HI0 := Lib.hid H0
  clear hi H0
  refine range_boxed rfl (by omega) (gf := 66) (lb := #[.pointer (some ⟨w.heap.size + 1 + 1, 0, none⟩)]) rfl trivial (enters_of Try.func66 (by kernel_rfl) rfl)
    (all1_stops _ (by omega) (w.heap.size + 1 + 1) (w.heap.size + 3) q L WR hS cR (by omega)) kept_t (fun W l o o' hl => kept_b (by omega) W l o o' hl) (fun _ _ h => kept_below h) (Below.refl _ _) (fun _ => rfl)
    (fun (pre : List Ent) W => LRun w n pre W)
    (fun c pre W => False)
    (fun s W W' row hs hg hr => hs.turned hg (fun k e => (hr k e).2) (fun k e => by have := (hr k e).1; omega))
    (fun c s W W' row hs hg hr => hs)
    b0 42 (fun x => #[.int .i64 x.1, .int .i64 x.2.1, .int .i64 x.2.2]) ?a₁ ?assign ?body ?done ?stop
  case assign =>
    intro l y b W K hb hK
    simp only [entA]
    have HB := Lib.hid hb
    clear hb
    gi_wp2
    simp only [HB.out]
    exact hK
  case body =>
    rintro l pre y g W hl ⟨rc, hrc⟩ hrn he hlen
    obtain ⟨a, b, c⟩ := y
    dsimp only at he ⊢
    rw [HN.out] at hlen
    have q0 := he.cell 0
    have q1 := he.cell 1
    have q2 := he.cell 2
    have v0 := hrn.var.cell 0
    have hb1 := below_alloc W (.cells #[.int .i64 a, .int .i64 b, .int .i64 c] 42)
    have hown1 := own_keep' hrn.row hb1
    have hv1 := hrn.var.below hb1 hrn.var.lt
    obtain ⟨w3, hrun, hown3, hg3⟩ := run_append_fits (P := Try.prog) _ w.heap.size 100 100 42 i0 3 Try.underlying100 HI.out HI0.out w.heap.size pre.length n (trs pre) hown1 ⟨W.heap.size, 0, none⟩ 1 1 [.int .i64 a, .int .i64 b, .int .i64 c] rfl (by
      intro j u hj
      rw [Go.WideShapes.add_plain, Nat.zero_add, (Holds.new W 42 #[.int .i64 a, .int .i64 b, .int .i64 c]).cell]
      simpa using hj) (by simp [Value.oneCell']) (by omega)
    have hv3 := hv1.grown hg3 (by simp)
    have f3 := hv3.soft 0
    have v3 := hv3.cell 0
    have hp : (pre ++ [(a, b, c)]).length = pre.length + 1 := by simp
    have hch : Chg (fun k => k = w.heap.size ∨ k = w.heap.size + 1) W (w3.setCell ⟨w.heap.size + 1, 0, none⟩ (.slice (some ⟨w.heap.size, 0, none⟩) (pre.length + 1) n)) :=
      (Chg.of_below (fun k => k = w.heap.size ∨ k = w.heap.size + 1) hb1).trans ((Chg.of_grown (S := fun k => k = w.heap.size ∨ k = w.heap.size + 1) hg3 (fun k e => by cases e; exact .inl rfl)).trans (Chg.set (S := fun k => k = w.heap.size ∨ k = w.heap.size + 1) w3 (w.heap.size + 1) 0 _ (.inr rfl)) (fun _ _ h => h)) (fun _ _ h => h)
    have HR := Lib.hid (show LRun w n (pre ++ [(a, b, c)]) (w3.setCell ⟨w.heap.size + 1, 0, none⟩ (.slice (some ⟨w.heap.size, 0, none⟩) (pre.length + 1) n)) from by
      refine ⟨by omega, ?_, ?_, Below.chg hrn.below hch hrn.below.size (fun k hk => by omega)⟩
      · rw [hp]
        exact hv3.put 0 _
      · rw [hp, trs_append]
        exact hown3.kept (row := some (w.heap.size + 1)) (grown_set _ _ _ _) (.inr (by simp [Value.ownBlock])))
    have HK := Lib.hid (kept_chg (n := w.heap.size + 3) hch (fun k hk => by omega))
    have HO := Lib.hid (show KeepsFrom WR.heap.size W _ from (others_of_chg hch (fun k e => by
      rcases e with rfl | rfl
      · rcases own_open hrn.row with ⟨e1, _, _⟩ | ⟨g', cap', cur', e1, _, hH, _⟩
        · cases e1
        · simp only [Value.slice.injEq, Option.some.injEq, Addr.mk.injEq, true_and, and_true] at e1
          obtain ⟨rfl, rfl⟩ := e1
          exact ⟨_, _, _, hH⟩
      · exact ⟨_, _, _, hrn.var⟩)).from _)
    obtain ⟨m, hm⟩ : ∃ m, pre.length = m := ⟨_, rfl⟩
    rw [hm] at v0 hrun HR HK HO v3
    have HRun := Lib.hid hrun
    clear hrn hch hp hm hown1 hown3 hg3 hv1 hv3 hb1 hrun he hlen
    gi_wp2_with (refine wpListIn_append_known rfl (.tmp 11) (.tmp 13) 100 rfl (.slice (some ⟨w.heap.size, 0, none⟩) m n) (.slice (some ⟨W.heap.size, 0, none⟩) 1 1) rfl rfl HRun.out ?_)
    exact ⟨HO.out, HK.out, HR.out⟩
  case done =>
    rintro D ys W hD rfl hrn hDk
    have c2 := hrn.var.cell 0
    have hB := hrn.below
    have hro := hrn.row
    rw [HN.out] at c2
    have HRo := Lib.hid hro
    clear hrn hro
    gi_wp2
    exact list_leaves (v := .slice (some ⟨w.heap.size, 0, none⟩) n n) (c := n) (by rw [HN.out]) (by have := HRo.out; rw [HN.out] at this ⊢; exact this) hB (by omega) hDk rfl
  case stop =>
    rintro D c pre W hD hpre hf hDk
    exact hf.elim
end Go.Proofs.Ytgmeakcfiaopcaa

/- The laws' first call; a law's new table. -/
namespace Go.Proofs.Ytgmeakcfiaopcaa
open Go.RowKit
set_option linter.unusedVariables false
set_option linter.unusedSimpArgs false

theorem tb_new (w : World) : Tb (w.alloc (.cells #[.int .i64 0, .int .i64 0, .int .i64 0, .int .i64 0, .int .i64 0, .int .i64 0, .int .i64 0, .int .i64 0, .int .i64 0, .int .i64 0, .int .i64 0, .int .i64 0, .int .i64 0, .int .i64 0, .int .i64 0, .int .i64 0, .int .i64 0, .int .i64 0, .int .i64 0, .int .i64 0, .int .i64 0, .int .i64 0, .int .i64 0, .int .i64 0, .int .i64 0] 63)) w.heap.size 0 63 [] [] [] := by
  refine ⟨List.replicate 8 (0, 0, 0), rfl, rfl, Nat.zero_le _, rfl, ?_⟩
  exact Holds.new w _ _
theorem tb_below {w0 w w' : World} {g o : Nat} {t : TypeId} {pre post : List Value} {L : List Ent} (h : Tb w g o t pre post L) (hb : Below w0.heap.size w0 w) (hc : Chg (fun k => k = g) w w') (hg : w0.heap.size ≤ g) : Below w0.heap.size w0 w' :=
  Below.chg hb hc hb.size (fun k hk => by subst hk; exact hg)
theorem pushL_nil (e : Ent) : pushL [] e = [e] := rfl
theorem later_nil (e : Ent) : Later [] e := fun _ h => by cases h
end Go.Proofs.Ytgmeakcfiaopcaa

/- A slice of entries (structs of three integers), read and appended to; one that came in. Nothing here speaks of one program. -/
namespace Go.Proofs.Ytgmeakcfiaopcaa
open Go.RowKit
set_option linter.unusedVariables false
set_option linter.unusedSimpArgs false

/-- A slice of entries, at blocks from B on. -/
structure TRow (w : World) (B : Nat) (A : Option Addr) (n c : Nat) (L : List Ent) : Prop where
  len : L.length = n
  cap_le : n ≤ c
  max : c ≤ maxLen
  nil : A = none → c = 0
  cell : 0 < n → ∃ b off, A = some ⟨b, off, none⟩ ∧ B ≤ b ∧ b < w.heap.size ∧ ∀ j v, (trs L)[j]? = some v → w.cell? ⟨b, off + j, none⟩ = some v
section
variable {w w' : World} {B : Nat} {A : Option Addr} {n c : Nat} {L : List Ent}
theorem trow_none (w : World) (B : Nat) : TRow w B none 0 0 [] := ⟨rfl, Nat.le_refl _, Nat.zero_le _, fun _ => rfl, fun h => absurd h (Nat.lt_irrefl _)⟩
theorem TRow.chg {S : Nat → Prop} (h : TRow w B A n c L) (hc : Chg S w w') (hS : ∀ k, B ≤ k → ¬ S k) : TRow w' B A n c L :=
  ⟨h.len, h.cap_le, h.max, h.nil, fun hn => by
    obtain ⟨b, off, e, hB, hb, hh⟩ := h.cell hn
    exact ⟨b, off, e, hB, Nat.lt_of_lt_of_le hb hc.size, fun j v hv => (hc.cell hb (hS b hB)).trans (hh j v hv)⟩⟩
theorem TRow.below (h : TRow w B A n c L) (hb : Below w.heap.size w w') : TRow w' B A n c L := h.chg (Chg.of_below (fun _ => False) hb) (fun _ _ h => h)
theorem TRow.mono {B' : Nat} (h : TRow w B A n c L) (hB : B' ≤ B) : TRow w B' A n c L :=
  ⟨h.len, h.cap_le, h.max, h.nil, fun hn => by
    obtain ⟨b, off, e, hb, r⟩ := h.cell hn
    exact ⟨b, off, e, Nat.le_trans hB hb, r⟩⟩
theorem TRow.at (h : TRow w B A n c L) {i : Nat} {e : Ent} (hi : L[i]? = some e) :
    ∃ b off, A = some ⟨b, off, none⟩ ∧ w.cell? ⟨b, off + i * 3, none⟩ = some (.int .i64 e.1) ∧ w.cell? ⟨b, off + i * 3 + 1, none⟩ = some (.int .i64 e.2.1) ∧ w.cell? ⟨b, off + i * 3 + 2, none⟩ = some (.int .i64 e.2.2) := by
  have hlt := (List.getElem?_eq_some_iff.1 hi).1
  obtain ⟨b, off, e1, _, _, hh⟩ := h.cell (by rw [h.len] at hlt; omega)
  obtain ⟨g0, g1, g2⟩ := trs_get L i e hi
  exact ⟨b, off, e1, hh _ _ g0, by rw [Nat.add_assoc]; exact hh _ _ g1, by rw [Nat.add_assoc]; exact hh _ _ g2⟩
theorem TRow.of_own {e : TypeId} (h : w.ownsRow B e 3 (.slice A n c) n (trs L)) : TRow w B A n c L := by
  have hl := h.1
  rw [trs_len] at hl
  rcases own_open h with ⟨e1, hn, _⟩ | ⟨g, cap, cur, e1, hB, hH, hnc, hcm, hcl, hct⟩
  · simp only [Value.slice.injEq] at e1
    obtain ⟨rfl, rfl, rfl⟩ := e1
    exact ⟨by omega, Nat.le_refl _, Nat.zero_le _, fun _ => rfl, fun h => absurd h (Nat.lt_irrefl _)⟩
  · simp only [Value.slice.injEq, true_and] at e1
    obtain ⟨rfl, rfl⟩ := e1
    refine ⟨by omega, hnc, hcm, (fun h => by cases h), fun hn => ⟨g, 0, rfl, hB, hH.lt, fun j v hv => ?_⟩⟩
    have hj := (List.getElem?_eq_some_iff.1 hv).1
    rw [Nat.zero_add, hH.cell, List.getElem?_toArray, ← hv, ← hct, List.getElem?_take, if_pos (by rw [trs_len] at hj; omega)]
/-- The first entry cut off. -/
theorem TRow.tail {g : Nat} (h : TRow w B (some ⟨g, 0, none⟩) n c L) (hn : 1 < n) : TRow w B (some ⟨g, 3, none⟩) (n - 1) (c - 1) L.tail := by
  have := h.cap_le
  have := h.max
  refine ⟨by rw [List.length_tail, h.len], by omega, by omega, (fun h => by cases h), fun _ => ?_⟩
  obtain ⟨b, off, e, hB, hb, hh⟩ := h.cell (by omega)
  simp only [Option.some.injEq, Addr.mk.injEq, and_true] at e
  obtain ⟨rfl, rfl⟩ := e
  refine ⟨g, 3, rfl, hB, hb, fun j v hv => ?_⟩
  have := hh (3 + j) v (by
    rw [← hv, ← List.drop_one, ← trs_drop, List.getElem?_drop])
  simpa using this
end
/-- A list appended to a row of the call's own. -/
theorem run_append_tr {P : Program} (w : World) (B B2 : Nat) (t ty e : TypeId) (i : TypeInfo) (z : Value) (ht : P.underlying t = some (.slice e)) (hi : P.info? e = some i) (hz : i.zero = some z)
    (hsize : i.size = 3) (hby : i.bytes = 24) (hzs : z.cells.size = 3) (v : Value) (n : Nat) (xs : List Value) (hown : w.ownsRow B e 3 v n xs)
    (A : Option Addr) (m c : Nat) (L : List Ent) (hr : TRow w B2 A m c L) (hm : n + m ≤ 1000) (hbase : B ≤ w.heap.size) :
    ∃ A' c' w', (Builtin.append_ #[t, t] ty #[v, .slice A m c]).run P w = .ok (.slice A' (n + m) c') w' ∧ w'.ownsRow B e 3 (.slice A' (n + m) c') (n + m) (xs ++ trs L) ∧ w.grownBy w' v.ownBlock ∧
      ∀ q, (Value.slice A' (n + m) c').ownBlock = some q → v.ownBlock = some q ∨ w.heap.size ≤ q := by
  rcases A with _ | ad
  · have hc := hr.nil rfl
    have hcl := hr.cap_le
    obtain rfl : m = 0 := by omega
    have hn : L = [] := List.eq_nil_of_length_eq_zero hr.len
    subst hn
    obtain ⟨A', c', rfl⟩ := own_shape hown
    refine ⟨A', c', w, ?_, by simpa [trs_nil] using hown, ⟨rfl, rfl, rfl, Nat.le_refl _, fun _ _ _ => rfl⟩, fun q hq => .inl hq⟩
    rw [Nat.add_zero]
    exact run_append_owned_none (P := P) w B t ty e i 3 ht hi _ n xs hown
  · refine run_append_rowK (P := P) w B t ty e i z 3 24 ht hi hz hsize hby hzs (by omega) v n xs hown ad m c (trs L) (by rw [trs_len, hr.len]) (fun j u hj => ?_) (trs_one L) (by unfold maxLen; omega) (by omega) hbase
    have hjl := (List.getElem?_eq_some_iff.1 hj).1
    rw [trs_len, hr.len] at hjl
    obtain ⟨b, off, e1, _, _, hh⟩ := hr.cell (by omega)
    simp only [Option.some.injEq] at e1
    subst e1
    rw [Go.WideShapes.add_plain]
    exact hh j u hj
/-- A law's slice of entries. -/
theorem fit3 {W : World} {vs : List Value} (h : Fit W [.int .i64, .int .i64, .int .i64] vs) : ∃ e : Ent, vs = [.int .i64 e.1, .int .i64 e.2.1, .int .i64 e.2.2] ∧ Fits e.1 ∧ Fits e.2.1 ∧ Fits e.2.2 := by
  match vs, h.length, h with
  | [y0, y1, y2], _, h =>
    obtain ⟨⟨x0, rfl, h0⟩, ⟨x1, rfl, h1⟩, ⟨x2, rfl, h2⟩, _⟩ := h
    exact ⟨(x0, x1, x2), rfl, fits_wf h0, fits_wf h1, fits_wf h2⟩
theorem trs_at : ∀ (L : List Ent) (j : Nat), (trs L)[j]? = (L[j / 3]?).bind fun e => [Value.int .i64 e.1, .int .i64 e.2.1, .int .i64 e.2.2][j % 3]?
  | [], j => by simp [trs_nil]
  | e :: L, 0 => rfl
  | e :: L, 1 => rfl
  | e :: L, 2 => rfl
  | e :: L, j + 3 => by
    rw [trs_cons]
    simp only [List.getElem?_cons_succ]
    rw [trs_at L j, show (j + 3) / 3 = j / 3 + 1 by omega, show (j + 3) % 3 = j % 3 by omega, List.getElem?_cons_succ]
theorem trow_of_flat {W : World} {A : Option Addr} {n c : Nat} {f : Nat → List Value} (h : FlatRow W [.int .i64, .int .i64, .int .i64] A n c f) :
    ∃ L : List Ent, TRow W 0 A n c L ∧ ∀ e ∈ L, Fits e.1 ∧ Fits e.2.1 ∧ Fits e.2.2 := by
  have hex : ∀ i, ∃ e : Ent, i < n → f i = [.int .i64 e.1, .int .i64 e.2.1, .int .i64 e.2.2] ∧ Fits e.1 ∧ Fits e.2.1 ∧ Fits e.2.2 := fun i => by
    by_cases hi : i < n
    · obtain ⟨e, h1, h2⟩ := fit3 (h.fit i hi)
      exact ⟨e, fun _ => ⟨h1, h2⟩⟩
    · exact ⟨(0, 0, 0), fun h => absurd h hi⟩
  obtain ⟨g, hg⟩ := Classical.axiomOfChoice hex
  refine ⟨(List.range n).map g, ⟨by simp, h.cap_le, h.max, h.nil, fun hn => ?_⟩, ?_⟩
  · obtain ⟨b, off, e, hb, hc⟩ := h.cell hn
    refine ⟨b, off, e, Nat.zero_le _, hb, fun j v hv => ?_⟩
    rw [trs_at] at hv
    by_cases hj : j / 3 < n
    · have hr : ((List.range n).map g)[j / 3]? = some (g (j / 3)) := by simp [hj]
      rw [hr] at hv
      have h1 := hc (j / 3) hj (j % 3) (by show j % 3 < 3; omega)
      have h2 : j / 3 * [FK.int .i64, FK.int .i64, FK.int .i64].length + j % 3 = j := by show j / 3 * 3 + j % 3 = j; omega
      rw [h2, (hg _ hj).1] at h1
      rw [h1]
      exact hv
    · have hr : ((List.range n).map g)[j / 3]? = none := by rw [List.getElem?_eq_none]; simp; omega
      rw [hr] at hv
      cases hv
  · intro e he
    simp only [List.mem_map, List.mem_range] at he
    obtain ⟨i, hi, rfl⟩ := he
    exact (hg i hi).2
section
variable {P : Program} {w : World}
/-- In a walk: one entry (just laid as a slice of one) is appended to a row of the call's own. -/
theorem wpList_push_ent {ops : Array Oper} {rest : List Oper} {o : Oper} {a : Act} {Q : Exit → Act → World → Prop} (hgd : o.guard = none) (s x : Operand) (t : TypeId)
    (ho : o.op = .call { callee := .builtin .append, args := #[s, x], argTypes := #[t, t] })
    (B : Nat) (e : TypeId) (ht : P.underlying t = some (.slice e)) (hi : (P.info? e).map (fun i => (i.zero, i.size, i.bytes)) = some (some (.agg #[.int .i64 0, .int .i64 0, .int .i64 0]), 3, 24))
    (A : Option Addr) (n c : Nat) (L : List Ent) (hs : a.eval s = .slice A n c) (hown : w.ownsRow B e 3 (.slice A n c) n (trs L))
    (g : Nat) (te : TypeId) (y : Ent) (hx : a.eval x = .slice (some ⟨g, 0, none⟩) 1 1) (hH : Holds w g te #[.int .i64 y.1, .int .i64 y.2.1, .int .i64 y.2.2]) (hn : n ≤ 1000) (hbase : B ≤ w.heap.size)
    (h : ∀ A' c' w', w'.ownsRow B e 3 (.slice A' (n + 1) c') (n + 1) (trs (L ++ [y])) → Below B w w' → wpList P ops Q rest (a.put o.dst (.slice A' (n + 1) c')) w') :
    wpList P ops Q (o :: rest) a w := by
  obtain ⟨i, hi0, hzz⟩ := Option.map_eq_some_iff.1 hi
  simp only [Prod.mk.injEq] at hzz
  obtain ⟨hz, hsz, hby⟩ := hzz
  refine wpList_append_rowK w hgd s x t ho B e i _ 3 24 ht hi0 hz hsz hby rfl (by decide) _ n (trs L) hs hown ⟨g, 0, none⟩ 1 1 (trs [y]) hx rfl (fun j u hj => ?_) (trs_one _) (by unfold maxLen; omega) (by omega) hbase ?_
  · rw [Go.WideShapes.add_plain, Nat.zero_add, hH.cell]
    rw [List.getElem?_toArray]
    exact hj
  · intro A' c' w' h1 h2 _
    rw [← trs_append] at h1
    exact h A' c' w' h1 ((Below.refl _ _).grown h2 hbase (fun k hk => (hown.lt k hk).1))
end
end Go.Proofs.Ytgmeakcfiaopcaa

/- The document's list of entries: Add, Hops. -/
namespace Go.Proofs.Ytgmeakcfiaopcaa
open Go.RowKit
set_option linter.unusedVariables false
set_option linter.unusedSimpArgs false

end Go.Proofs.Ytgmeakcfiaopcaa

/- Tables: what rises, what is newest. -/
namespace Go.Proofs.Ytgmeakcfiaopcaa
open Go.RowKit
set_option linter.unusedVariables false
set_option linter.unusedSimpArgs false

def Rising (L : List Ent) : Prop := L.Pairwise fun x y => x.1 < y.1
theorem rising_nil : Rising [] := List.Pairwise.nil
theorem rising_push {L : List Ent} {e : Ent} (h : Rising L) (hl : Later L e) : Rising (pushL L e) := by
  have hall : ∀ x ∈ L, x.1 < e.1 := fun x hx => by
    rcases List.eq_nil_or_concat L with rfl | ⟨M, y, rfl⟩
    · cases hx
    · rw [List.concat_eq_append] at h hx hl
      have hy := hl y (by simp)
      rcases List.mem_append.1 hx with hx | hx
      · have := (List.pairwise_append.1 h).2.2 x hx y (by simp)
        omega
      · simp only [List.mem_singleton] at hx
        subst hx
        exact hy
  have key : ∀ M : List Ent, M.Sublist L → Rising (M ++ [e]) := fun M hM =>
    List.pairwise_append.2 ⟨List.Pairwise.sublist hM h, List.pairwise_singleton _ _, fun x hx y hy => by
      simp only [List.mem_singleton] at hy
      subst hy
      exact hall x (hM.subset hx)⟩
  unfold pushL
  split
  · exact key _ (List.tail_sublist _)
  · exact key _ (List.Sublist.refl _)
theorem rising_at {L : List Ent} (h : Rising L) {i : Nat} {x y : Ent} (hx : L[i]? = some x) (hy : L[i + 1]? = some y) : x.1 < y.1 := by
  obtain ⟨h1, e1⟩ := List.getElem?_eq_some_iff.1 hx
  obtain ⟨h2, e2⟩ := List.getElem?_eq_some_iff.1 hy
  have := List.pairwise_iff_getElem.1 h i (i + 1) h1 h2 (Nat.lt_succ_self _)
  rw [e1, e2] at this
  exact this
theorem push_snoc (L : List Ent) (e : Ent) : ∃ M, pushL L e = M ++ [e] := by
  unfold pushL
  split
  · exact ⟨_, rfl⟩
  · exact ⟨_, rfl⟩
theorem not_later {L : List Ent} {a b c : Int} (h : ¬ Later L (a, b, c)) : ∃ M x y z, L = M ++ [(x, y, z)] ∧ a ≤ x := by
  rcases List.eq_nil_or_concat L with rfl | ⟨M, x, rfl⟩
  · exact absurd (later_nil _) h
  · obtain ⟨x, y, z⟩ := x
    rw [List.concat_eq_append] at h ⊢
    refine ⟨M, x, y, z, rfl, ?_⟩
    refine Classical.byContradiction fun hn => h fun v hv => ?_
    simp at hv
    subst hv
    show x < a
    omega
theorem ents_at {w : World} {B : Nat} {t : TypeId} {g n c : Nat} {L : List Ent} (h : w.ownsRow B t 3 (.slice (some ⟨g, 0, none⟩) n c) n (trs L)) {i : Nat} {x : Ent} (hx : L[i]? = some x) :
    w.cell? ⟨g, i * 3, none⟩ = some (.int .i64 x.1) ∧ w.cell? ⟨g, i * 3 + 1, none⟩ = some (.int .i64 x.2.1) ∧ w.cell? ⟨g, i * 3 + 2, none⟩ = some (.int .i64 x.2.2) := by
  obtain ⟨b, off, e, q0, q1, q2⟩ := (TRow.of_own h).at hx
  simp only [Option.some.injEq, Addr.mk.injEq, and_true] at e
  obtain ⟨rfl, rfl⟩ := e
  rw [Nat.zero_add] at q0 q1 q2
  exact ⟨q0, q1, q2⟩
end Go.Proofs.Ytgmeakcfiaopcaa

/- The table and the document's list of entries, side by side: what an Add does to both. -/
namespace Go.Proofs.Ytgmeakcfiaopcaa
open Go.RowKit
set_option linter.unusedVariables false
set_option linter.unusedSimpArgs false

/-- What becomes of the entries, and which error is told. -/
def Step (L : List Ent) (e : Ent) (M : List Ent) (v : Int) : Prop := (¬ CanE e ∧ M = L ∧ v = 1) ∨ (CanE e ∧ ¬ Later L e ∧ M = L ∧ v = 12) ∨ (CanE e ∧ Later L e ∧ M = pushL L e ∧ v = 0)
theorem step_is (L : List Ent) (e : Ent) : ∃ M v, Step L e M v := by
  by_cases hc : CanE e
  · by_cases hl : Later L e
    · exact ⟨_, _, .inr (.inr ⟨hc, hl, rfl, rfl⟩)⟩
    · exact ⟨_, _, .inr (.inl ⟨hc, hl, rfl, rfl⟩)⟩
  · exact ⟨_, _, .inl ⟨hc, rfl, rfl⟩⟩
theorem add_step (a b c : Int) (w : World) (g o : Nat) (t : TypeId) (pre post : List Value) (L M : List Ent) (v : Int) (h : Tb w g o t pre post L) (hs : Step L (a, b, c) M v) :
    Calls Try.prog 38 #[.pointer (some ⟨g, o, none⟩), .agg #[.int .i64 a, .int .i64 b, .int .i64 c]] w fun e w' => e = .returned (.int .i64 v) ∧ Tb w' g o t pre post M ∧ Chg (fun k => k = g) w w' := by
  rcases hs with ⟨hc, rfl, rfl⟩ | ⟨hc, hl, rfl, rfl⟩ | ⟨hc, hl, rfl, rfl⟩
  · exact (add_bad a b c w _ hc).mono fun e w' ⟨he, hb⟩ => ⟨he, h.below hb, Chg.of_below _ hb⟩
  · obtain ⟨P, x, y, z, rfl, hx⟩ := not_later hl
    exact (add_late a b c w g o t pre post P x y z h hc hx).mono fun e w' ⟨he, hb⟩ => ⟨he, h.below hb, Chg.of_below _ hb⟩
  · exact (add_any a b c w g o t pre post L h hc hl).mono fun e w' ⟨he, ht, hcg⟩ => ⟨he, ht, hcg⟩
theorem step_le {L M : List Ent} {e : Ent} {v : Int} (h : Step L e M v) (h8 : L.length ≤ 8) : M.length ≤ 8 := by
  rcases h with ⟨_, rfl, _⟩ | ⟨_, _, rfl, _⟩ | ⟨_, _, rfl, _⟩
  · exact h8
  · exact h8
  · exact pushL_len h8 e
/-- The table at block z, and the document's list, made behind it. -/
structure TD (w0 : World) (z : Nat) (L : List Ent) (A : Option Addr) (c : Nat) (w : World) : Prop where
  tab : Tb w z 0 63 [] [] L
  doc : TRow w (z + 1) A L.length c L
  below : Below w0.heap.size w0 w
  old : w0.heap.size ≤ z
section
variable {w0 w w' : World} {z : Nat} {L M : List Ent} {A : Option Addr} {c : Nat}
theorem TD.onto (h : TD w0 z L A c w) (hb : Below w.heap.size w w') : TD w0 z L A c w' := ⟨h.tab.below hb, h.doc.below hb, h.below.trans (hb.mono h.below.size), h.old⟩
theorem TD.clear (h : TD w0 z L A c w) (ht : Tb w' z 0 63 [] [] []) (hc : Chg (fun k => k = z) w w') : TD w0 z [] none 0 w' := ⟨ht, trow_none _ _, tb_below h.tab h.below hc h.old, h.old⟩
end
end Go.Proofs.Ytgmeakcfiaopcaa

/- Package fix, for the seats of later layers: what Add, Sub, Sat, Floor and Clamp answer, for all numbers of 64 bits. -/
namespace Go.Proofs.Ytgmeakcfiaopcaa
open Go.RowKit

def clampV (x l h : Int) : Int := if x < l ∨ h < l then l else if h < x then h else x
theorem clamp_any (x l h : Int) (w : World) :
    Calls Try.prog 68 #[.int .i64 x, .int .i64 l, .int .i64 h] w fun e w' => e = .returned (.int .i64 (clampV x l h)) ∧ w = w' := by
  by_cases c1 : x < l
  · go_enter Try.func68, Try.ntmps68
    go_wp2
    go_ret
    exact ⟨ret_int (by unfold clampV; rw [if_pos (Or.inl c1)]), rfl⟩
  · by_cases c2 : h < l
    · go_enter Try.func68, Try.ntmps68
      go_wp2
      go_ret
      exact ⟨ret_int (by unfold clampV; rw [if_pos (Or.inr c2)]), rfl⟩
    · by_cases c3 : h < x
      · go_enter Try.func68, Try.ntmps68
        go_wp2
        go_ret
        exact ⟨ret_int (by unfold clampV; rw [if_neg (by omega)]; first | rw [if_pos (by omega)] | rw [if_neg (by omega)]), rfl⟩
      · go_enter Try.func68, Try.ntmps68
        go_wp2
        go_ret
        exact ⟨ret_int (by unfold clampV; rw [if_neg (by omega)]; first | rw [if_pos (by omega)] | rw [if_neg (by omega)]), rfl⟩
theorem floor_no (a b : Int) (w : World) (h : b < 1) :
    Calls Try.prog 60 #[.int .i64 a, .int .i64 b] w fun e w' => e = .returned (.tuple #[.int .i64 0, .int .i64 0, .bool false]) ∧ w = w' := by
  go_enter Try.func60, Try.ntmps60
  go_wp2
  go_ret3
  exact ⟨rfl, rfl⟩
theorem ret_iib {k l : IntKind} {a b c d : Int} {o : Bool} (h : a = b) (g : c = d) : Ending.returned (.tuple #[.int k a, .int l c, .bool o]) = .returned (.tuple #[.int k b, .int l d, .bool o]) := by rw [h, g]
theorem tdm_neg (a b : Int) (h : 1 ≤ b) (c : a.tmod b < 0) : a.tdiv b - 1 = a / b ∧ a.tmod b + b = a % b := by
  have e1 := Int.tdiv_eq_ediv (a := a) (b := b)
  have e2 := Int.tmod_eq_emod (a := a) (b := b)
  have hs : b.sign = 1 := Int.sign_eq_one_of_pos (by omega)
  have hm := Int.emod_nonneg a (show b ≠ 0 by omega)
  rw [hs] at e1
  split at e1 <;> split at e2 <;> first | contradiction | omega
theorem tdm_pos (a b : Int) (h : 1 ≤ b) (c : ¬ a.tmod b < 0) : a.tdiv b = a / b ∧ a.tmod b = a % b := by
  have e1 := Int.tdiv_eq_ediv (a := a) (b := b)
  have e2 := Int.tmod_eq_emod (a := a) (b := b)
  have hs : b.sign = 1 := Int.sign_eq_one_of_pos (by omega)
  have hm := Int.emod_lt_of_pos a (show 0 < b by omega)
  rw [hs] at e1
  split at e1 <;> split at e2 <;> first | contradiction | omega
theorem ediv_bd (a b : Int) (h : 1 ≤ b) : (0 ≤ a → 0 ≤ a / b ∧ a / b ≤ a) ∧ (a < 0 → a ≤ a / b ∧ a / b < 0) := by
  constructor
  · intro c; exact ⟨Int.ediv_nonneg c (by omega), Int.ediv_le_self _ c⟩
  · intro c
    refine ⟨?_, Int.ediv_neg_of_neg_of_pos c (by omega)⟩
    rw [Int.le_ediv_iff_mul_le (by omega)]
    have := Int.mul_le_mul_of_nonpos_left (a := a) (by omega) h
    simpa using this
theorem floor_yes (a b : Int) (w : World) (ha : Fits a) (h1 : 1 ≤ b) (h2 : b ≤ 9223372036854775807) :
    Calls Try.prog 60 #[.int .i64 a, .int .i64 b] w fun e w' => e = .returned (.tuple #[.int .i64 (a / b), .int .i64 (a % b), .bool true]) ∧ ∃ n, w' = w.drewN n := by
  obtain ⟨ha1, ha2⟩ := ha
  have g0 := ediv_bd a b h1
  have m0 := Int.emod_nonneg a (show b ≠ 0 by omega)
  have m1 := Int.emod_lt_of_pos a (show 0 < b by omega)
  by_cases c : a.tmod b < 0
  · have H : Hid (a.tdiv b - 1 = a / b ∧ a.tmod b + b = a % b) := Lib.hid (tdm_neg a b h1 c)
    have g1 : -9223372036854775808 ≤ a.tdiv b - 1 ∧ a.tdiv b - 1 ≤ 9223372036854775807 := by have := H.out; omega
    have g2 : -9223372036854775808 ≤ a.tmod b + b ∧ a.tmod b + b ≤ 9223372036854775807 := by have := H.out; omega
    obtain ⟨g3, g4⟩ := g1
    obtain ⟨g5, g6⟩ := g2
    clear g0 m0 m1
    go_enter Try.func60, Try.ntmps60
    go_wp2
    go_quiet (fail)
    go_wp2
    go_ret3
    exact ⟨ret_iib H.out.1 H.out.2, ⟨_, rfl⟩⟩
  · have H : Hid (a.tdiv b = a / b ∧ a.tmod b = a % b) := Lib.hid (tdm_pos a b h1 c)
    clear g0 m0 m1
    go_enter Try.func60, Try.ntmps60
    go_wp2
    go_quiet (fail)
    go_wp2
    go_ret3
    exact ⟨ret_iib H.out.1 H.out.2, ⟨_, rfl⟩⟩
end Go.Proofs.Ytgmeakcfiaopcaa

/- Least squares by whole numbers: plain mathematics of the numerator and the denominator. Nothing here speaks of one program. -/
namespace Go.Proofs.Ytgmeakcfiaopcaa

/-- The sum of what each point gives. -/
def sumP (f : Int × Int → Int) : List (Int × Int) → Int
  | [] => 0
  | p :: L => f p + sumP f L
def pX (p : Int × Int) : Int := p.1
def pY (p : Int × Int) : Int := p.2
def pXY (p : Int × Int) : Int := p.1 * p.2
def pXX (p : Int × Int) : Int := p.1 * p.1
def numV (L : List (Int × Int)) : Int := (L.length : Int) * sumP pXY L - sumP pX L * sumP pY L
def denV (L : List (Int × Int)) : Int := (L.length : Int) * sumP pXX L - sumP pX L * sumP pX L
theorem sumP_append (f : Int × Int → Int) : ∀ L M : List (Int × Int), sumP f (L ++ M) = sumP f L + sumP f M
  | [], M => by simp [sumP]
  | p :: L, M => by
    show f p + sumP f (L ++ M) = f p + sumP f L + sumP f M
    rw [sumP_append f L M]
    omega
theorem sumP_snoc (f : Int × Int → Int) (L : List (Int × Int)) (p : Int × Int) : sumP f (L ++ [p]) = sumP f L + f p := by
  rw [sumP_append]
  show _ + (f p + 0) = _
  omega
theorem sumP_nonneg (f : Int × Int → Int) : ∀ L : List (Int × Int), (∀ p ∈ L, 0 ≤ f p) → 0 ≤ sumP f L
  | [], _ => Int.le_refl _
  | p :: L, h => by
    have h1 := h p (List.mem_cons_self ..)
    have h2 := sumP_nonneg f L (fun q hq => h q (List.mem_cons_of_mem _ hq))
    show 0 ≤ f p + sumP f L
    omega
theorem sumP_pos (f : Int × Int → Int) (L : List (Int × Int)) (h : ∀ p ∈ L, 0 < f p) (hL : L ≠ []) : 0 < sumP f L := by
  cases L with
  | nil => exact absurd rfl hL
  | cons p L =>
    have h1 := h p (List.mem_cons_self ..)
    have h2 := sumP_nonneg f L (fun q hq => Int.le_of_lt (h q (List.mem_cons_of_mem _ hq)))
    show 0 < f p + sumP f L
    omega
theorem sumP_nonpos (f : Int × Int → Int) : ∀ L : List (Int × Int), (∀ p ∈ L, f p ≤ 0) → sumP f L ≤ 0
  | [], _ => Int.le_refl _
  | p :: L, h => by
    have h1 := h p (List.mem_cons_self ..)
    have h2 := sumP_nonpos f L (fun q hq => h q (List.mem_cons_of_mem _ hq))
    show f p + sumP f L ≤ 0
    omega
/-- Sums of bounded numbers are bounded. -/
theorem sumP_bd (f : Int × Int → Int) (lo hi : Int) : ∀ L : List (Int × Int), (∀ p ∈ L, lo ≤ f p ∧ f p ≤ hi) → (L.length : Int) * lo ≤ sumP f L ∧ sumP f L ≤ (L.length : Int) * hi
  | [], _ => by simp [sumP]
  | p :: L, h => by
    have h1 := h p (List.mem_cons_self ..)
    have h2 := sumP_bd f lo hi L (fun q hq => h q (List.mem_cons_of_mem _ hq))
    have e1 : ((p :: L).length : Int) * lo = (L.length : Int) * lo + lo := by rw [List.length_cons]; grind
    have e2 : ((p :: L).length : Int) * hi = (L.length : Int) * hi + hi := by rw [List.length_cons]; grind
    rw [e1, e2]
    show _ ≤ f p + sumP f L ∧ f p + sumP f L ≤ _
    omega
/-- What one point more adds to the numerator: the products of how far it is from each of the others. -/
def cross (p : Int × Int) (q : Int × Int) : Int := (p.1 - q.1) * (p.2 - q.2)
def crossX (p : Int × Int) (q : Int × Int) : Int := (p.1 - q.1) * (p.1 - q.1)
theorem sum_cross (p : Int × Int) : ∀ L : List (Int × Int), sumP (cross p) L = (L.length : Int) * (p.1 * p.2) - p.1 * sumP pY L - p.2 * sumP pX L + sumP pXY L
  | [] => by simp [sumP]
  | q :: L => by
    have := sum_cross p L
    show cross p q + sumP (cross p) L = ((q :: L).length : Int) * (p.1 * p.2) - p.1 * (pY q + sumP pY L) - p.2 * (pX q + sumP pX L) + (pXY q + sumP pXY L)
    rw [this, List.length_cons]
    unfold cross pY pX pXY
    grind
theorem sum_crossX (p : Int × Int) : ∀ L : List (Int × Int), sumP (crossX p) L = (L.length : Int) * (p.1 * p.1) - 2 * (p.1 * sumP pX L) + sumP pXX L
  | [] => by simp [sumP]
  | q :: L => by
    have := sum_crossX p L
    show crossX p q + sumP (crossX p) L = ((q :: L).length : Int) * (p.1 * p.1) - 2 * (p.1 * (pX q + sumP pX L)) + (pXX q + sumP pXX L)
    rw [this, List.length_cons]
    unfold crossX pX pXX
    grind
theorem num_snoc (L : List (Int × Int)) (p : Int × Int) : numV (L ++ [p]) = numV L + sumP (cross p) L := by
  rw [sum_cross]
  unfold numV
  rw [sumP_snoc, sumP_snoc, sumP_snoc, List.length_append, List.length_singleton]
  unfold pX pY pXY
  grind
theorem den_snoc (L : List (Int × Int)) (p : Int × Int) : denV (L ++ [p]) = denV L + sumP (crossX p) L := by
  rw [sum_crossX]
  unfold denV
  rw [sumP_snoc, sumP_snoc, List.length_append, List.length_singleton]
  unfold pX pXX
  grind
theorem num_one (p : Int × Int) : numV [p] = 0 := by
  unfold numV
  simp [sumP, pXY, pX, pY]
theorem den_one (p : Int × Int) : denV [p] = 0 := by
  unfold denV
  simp [sumP, pXX, pX]
theorem mul_nonpos_of {a b : Int} (ha : 0 ≤ a) (hb : b ≤ 0) : a * b ≤ 0 := by
  have := Int.mul_le_mul_of_nonneg_left hb ha
  simpa using this
/-- Of points that never fall the numerator is no less than 0, and where they never rise no greater; the denominator is never below 0, and above 0, where the first coordinates rise. -/
theorem num_up : ∀ (n : Nat) (L : List (Int × Int)), L.length = n → L.Pairwise (fun p q => p.1 ≤ q.1 ∧ p.2 ≤ q.2) → 0 ≤ numV L
  | 0, L, hn, _ => by
    obtain rfl := List.eq_nil_of_length_eq_zero hn
    decide
  | n + 1, L, hn, h => by
    rcases List.eq_nil_or_concat L with rfl | ⟨M, p, rfl⟩
    · cases hn
    · rw [List.concat_eq_append] at hn h ⊢
      have hp := List.pairwise_append.1 h
      have h1 := num_up n M (by rw [List.length_append] at hn; simpa using hn) hp.1
      have h2 := sumP_nonneg (cross p) M (fun q hq => by
        have := hp.2.2 q hq p (by simp)
        exact Int.mul_nonneg (by omega) (by omega))
      rw [num_snoc]
      omega
theorem num_down : ∀ (n : Nat) (L : List (Int × Int)), L.length = n → L.Pairwise (fun p q => p.1 ≤ q.1 ∧ q.2 ≤ p.2) → numV L ≤ 0
  | 0, L, hn, _ => by
    obtain rfl := List.eq_nil_of_length_eq_zero hn
    decide
  | n + 1, L, hn, h => by
    rcases List.eq_nil_or_concat L with rfl | ⟨M, p, rfl⟩
    · cases hn
    · rw [List.concat_eq_append] at hn h ⊢
      have hp := List.pairwise_append.1 h
      have h1 := num_down n M (by rw [List.length_append] at hn; simpa using hn) hp.1
      have h2 := sumP_nonpos (cross p) M (fun q hq => by
        have := hp.2.2 q hq p (by simp)
        exact mul_nonpos_of (by omega) (by omega))
      rw [num_snoc]
      omega
theorem sq_nonneg (a : Int) : 0 ≤ a * a := by
  rcases Int.le_total 0 a with h | h
  · exact Int.mul_nonneg h h
  · have := Int.mul_nonneg (show 0 ≤ -a by omega) (show 0 ≤ -a by omega)
    rw [Int.neg_mul_neg] at this
    exact this
theorem den_nonneg : ∀ (n : Nat) (L : List (Int × Int)), L.length = n → 0 ≤ denV L
  | 0, L, hn => by
    obtain rfl := List.eq_nil_of_length_eq_zero hn
    decide
  | n + 1, L, hn => by
    rcases List.eq_nil_or_concat L with rfl | ⟨M, p, rfl⟩
    · cases hn
    · rw [List.concat_eq_append] at hn ⊢
      have h1 := den_nonneg n M (by rw [List.length_append] at hn; simpa using hn)
      have h2 := sumP_nonneg (crossX p) M (fun q _ => sq_nonneg _)
      rw [den_snoc]
      omega
theorem den_pos {L : List (Int × Int)} (h2 : 2 ≤ L.length) (h : L.Pairwise (fun p q => p.1 < q.1)) : 0 < denV L := by
  rcases List.eq_nil_or_concat L with rfl | ⟨M, p, rfl⟩
  · simp at h2
  · rw [List.concat_eq_append] at h2 h ⊢
    have hp := List.pairwise_append.1 h
    have hM : M ≠ [] := by
      rintro rfl
      simp at h2
    have h1 := den_nonneg _ M rfl
    have h3 := sumP_pos (crossX p) M (fun q hq => by
      have := hp.2.2 q hq p (by simp)
      exact Int.mul_pos (by omega) (by omega)) hM
    rw [den_snoc]
    omega
/-- Points on a line: so much more for each so much. -/
def onLine (gain of : Int) (t : Int) : Int × Int := (t * of, t * gain)
theorem sumP_line (gain of : Int) : ∀ T : List Int, sumP pX (T.map (onLine gain of)) = of * sumP pX (T.map (fun t => (t, t))) ∧ sumP pY (T.map (onLine gain of)) = gain * sumP pX (T.map (fun t => (t, t))) ∧
    sumP pXY (T.map (onLine gain of)) = of * gain * sumP pXX (T.map (fun t => (t, t))) ∧ sumP pXX (T.map (onLine gain of)) = of * of * sumP pXX (T.map (fun t => (t, t)))
  | [] => by simp [sumP]
  | t :: T => by
    obtain ⟨h1, h2, h3, h4⟩ := sumP_line gain of T
    simp only [List.map_cons, sumP, h1, h2, h3, h4]
    unfold pX pY pXY pXX onLine
    refine ⟨by grind, by grind, by grind, by grind⟩
theorem line_num (gain of : Int) (T : List Int) : numV (T.map (onLine gain of)) = of * gain * denV (T.map (fun t => (t, t))) := by
  obtain ⟨h1, h2, h3, h4⟩ := sumP_line gain of T
  unfold numV denV
  rw [h1, h2, h3, List.length_map, List.length_map]
  grind
theorem line_den (gain of : Int) (T : List Int) : denV (T.map (onLine gain of)) = of * of * denV (T.map (fun t => (t, t))) := by
  obtain ⟨h1, h2, h3, h4⟩ := sumP_line gain of T
  unfold denV
  rw [h1, h4, List.length_map, List.length_map]
  grind

/-- No more than the greatest fraction that can be, c / d, and no less than its opposite. -/
def clampS (a b c d : Int) : Int × Int := if c * b < a * d then (c, d) else if c * b < -a * d then (-c, d) else (a, b)
theorem clamp_bound {a b c d : Int} (hb : 0 < b) (hc : 0 ≤ c) (hd : 0 < d) : (clampS a b c d).2 > 0 ∧ (clampS a b c d).1 * d ≤ c * (clampS a b c d).2 ∧ -(clampS a b c d).1 * d ≤ c * (clampS a b c d).2 := by
  have hcd : 0 ≤ c * d := Int.mul_nonneg hc (Int.le_of_lt hd)
  unfold clampS
  split
  · refine ⟨hd, Int.le_refl _, ?_⟩
    show -c * d ≤ c * d
    rw [Int.neg_mul]
    omega
  · split
    · refine ⟨hd, ?_, ?_⟩
      · show -c * d ≤ c * d
        rw [Int.neg_mul]
        omega
      · show - -c * d ≤ c * d
        rw [Int.neg_neg]
        exact Int.le_refl _
    · refine ⟨hb, ?_, ?_⟩
      · show a * d ≤ c * b
        omega
      · show -a * d ≤ c * b
        omega
/-- Of so many points so near the sums stay within 2^50. -/
theorem prod_bd {x y m k : Int} (hx : -m ≤ x ∧ x ≤ m) (hy : -k ≤ y ∧ y ≤ k) : -(m * k) ≤ x * y ∧ x * y ≤ m * k := by
  have h1 := Int.mul_nonneg (show 0 ≤ m - x by omega) (show 0 ≤ k - y by omega)
  have h2 := Int.mul_nonneg (show 0 ≤ m + x by omega) (show 0 ≤ k + y by omega)
  have h3 := Int.mul_nonneg (show 0 ≤ m - x by omega) (show 0 ≤ k + y by omega)
  have h4 := Int.mul_nonneg (show 0 ≤ m + x by omega) (show 0 ≤ k - y by omega)
  refine ⟨by grind, by grind⟩

/-- Is a / b greater than c / d? Reckoned bit by bit of d: behind the bits from the tenth down to bit n + 1, q and r are a times those, by b. -/
def OvI (a b d n q r : Int) : Prop := -1 ≤ n ∧ n ≤ 9 ∧ 0 ≤ q ∧ 0 ≤ r ∧ r < b ∧ q * b + r = a * (d / 2 ^ (n + 1).toNat)
theorem ov_start {a b d : Int} (hb : 0 < b) (h0 : 0 ≤ d) (h1 : d < 1024) : OvI a b d 9 0 0 := by
  refine ⟨by decide, Int.le_refl _, Int.le_refl _, Int.le_refl _, hb, ?_⟩
  have e : d / 2 ^ ((9 : Int) + 1).toNat = 0 := by
    show d / 1024 = 0
    omega
  rw [e]
  simp
theorem ov_half (d : Int) (j : Nat) : d / 2 ^ j = 2 * (d / 2 ^ ((j : Int) + 1).toNat) + d / 2 ^ j % 2 := by
  have e : d / 2 ^ ((j : Int) + 1).toNat = d / 2 ^ j / 2 := by
    rw [show ((j : Int) + 1).toNat = j + 1 by omega, Int.pow_succ, Int.ediv_ediv_of_nonneg (Int.le_of_lt (Int.pow_pos (by decide)))]
  rw [e]
  omega
theorem ov_dbl {q r b : Int} (h0 : 0 ≤ r) (h1 : r < b) : (b ≤ 2 * r → (2 * q + 1) * b + (2 * r - b) = 2 * (q * b + r) ∧ 0 ≤ 2 * r - b ∧ 2 * r - b < b) ∧ (¬ b ≤ 2 * r → 2 * q * b + 2 * r = 2 * (q * b + r) ∧ 0 ≤ 2 * r ∧ 2 * r < b) :=
  ⟨fun h => ⟨by grind, by omega, by omega⟩, fun h => ⟨by grind, by omega, by omega⟩⟩
theorem ov_add {q r b a : Int} (hb : 0 < b) (h0 : 0 ≤ r) (h1 : r < b) :
    (b ≤ r + a % b → (q + a / b + 1) * b + (r + a % b - b) = q * b + r + a ∧ 0 ≤ r + a % b - b ∧ r + a % b - b < b) ∧ (¬ b ≤ r + a % b → (q + a / b) * b + (r + a % b) = q * b + r + a ∧ 0 ≤ r + a % b ∧ r + a % b < b) := by
  have e := Int.emod_add_mul_ediv a b
  have m0 := Int.emod_nonneg a (show b ≠ 0 by omega)
  have m1 := Int.emod_lt_of_pos a hb
  exact ⟨fun h => ⟨by grind, by omega, by omega⟩, fun h => ⟨by grind, by omega, by omega⟩⟩
/-- One bit on: it is 0, or 1. -/
theorem ov_zero {a b d q r q2 r2 : Int} {j : Nat} (h : OvI a b d j q r) (hq : 0 ≤ q2) (h2 : q2 * b + r2 = 2 * (q * b + r)) (h0 : 0 ≤ r2) (h1 : r2 < b) (hbit : d / 2 ^ j % 2 = 0) : OvI a b d ((j : Int) - 1) q2 r2 := by
  obtain ⟨_, k2, _, _, _, k6⟩ := h
  have hh := ov_half d j
  refine ⟨by omega, by omega, hq, h0, h1, ?_⟩
  rw [show ((j : Int) - 1 + 1).toNat = j by omega, h2, k6, hh, hbit]
  grind
theorem ov_one {a b d q r q2 r2 q3 r3 : Int} {j : Nat} (h : OvI a b d j q r) (hq : 0 ≤ q3) (h2 : q2 * b + r2 = 2 * (q * b + r)) (h3 : q3 * b + r3 = q2 * b + r2 + a) (h0 : 0 ≤ r3) (h1 : r3 < b) (hbit : d / 2 ^ j % 2 = 1) : OvI a b d ((j : Int) - 1) q3 r3 := by
  obtain ⟨_, k2, _, _, _, k6⟩ := h
  have hh := ov_half d j
  refine ⟨by omega, by omega, hq, h0, h1, ?_⟩
  rw [show ((j : Int) - 1 + 1).toNat = j by omega, h3, h2, k6, hh, hbit]
  grind
theorem ov_end {a b c d q r : Int} (h : OvI a b d (-1) q r) : (c < q ∨ c = q ∧ 0 < r) ↔ c * b < a * d := by
  obtain ⟨_, _, h0, h1, h2, h3⟩ := h
  have e : d / 2 ^ ((-1 : Int) + 1).toNat = d := Int.ediv_one d
  rw [e] at h3
  have hb : 0 < b := by omega
  constructor
  · rintro (h | ⟨rfl, h⟩)
    · have := Int.mul_le_mul_of_nonneg_right (show c + 1 ≤ q by omega) (Int.le_of_lt hb)
      have e2 : (c + 1) * b = c * b + b := by grind
      omega
    · omega
  · intro h
    by_cases g : c < q
    · exact .inl g
    · by_cases g2 : c = q
      · subst g2
        exact .inr ⟨rfl, by omega⟩
      · exfalso
        have := Int.mul_le_mul_of_nonneg_right (show q + 1 ≤ c by omega) (Int.le_of_lt hb)
        have e2 : (q + 1) * b = q * b + b := by grind
        omega
/-- How great q may be, all the way. -/
theorem ov_bound {a b d n q r : Int} (h : OvI a b d n q r) (ha : 0 ≤ a) (h0 : 0 ≤ d) (h1 : d < 1024) : q ≤ a * 1023 := by
  obtain ⟨_, _, k0, k1, k2, k3⟩ := h
  have hd : 0 ≤ d / 2 ^ (n + 1).toNat ∧ d / 2 ^ (n + 1).toNat ≤ 1023 := by
    refine ⟨Int.ediv_nonneg h0 (Int.le_of_lt (Int.pow_pos (by decide))), ?_⟩
    have := Int.ediv_le_self (2 ^ (n + 1).toNat) h0
    omega
  have e1 := Int.mul_le_mul_of_nonneg_left hd.2 ha
  have e2 := Int.mul_le_mul_of_nonneg_left (show 1 ≤ b by omega) k0
  omega
end Go.Proofs.Ytgmeakcfiaopcaa

/- Package slope: apart, Most, within; the document's Most. -/
namespace Go.Proofs.Ytgmeakcfiaopcaa
open Go.RowKit
set_option linter.unusedVariables false
set_option linter.unusedSimpArgs false

theorem sl_size : (Try.prog.info? 107).map (·.size) = some 2 := by kernel_rfl
/-- The end of a call that answers a fraction, which lies in a variable of its own. -/
theorem end_sl {fn : Func} {p : Tmp} {R : Ending → World → Prop} {a : Act} {w : World} {g : Nat} {x y : Value} (h : fn.results = #[.cell p 107]) (hp : a.tmps.getD p undef = .pointer (some ⟨g, 0, none⟩))
    (hg : Holds w g 107 #[x, y]) (hd : a.defers = []) (hR : R (.returned (.agg #[x, y])) w) : bodyPost Try.prog fn R .ret a w :=
  bodyPost_ret (results_cell_row h _ _ g 107 _ (0, 0) _ hp hg Try.underlying107 rfl sl_size) hd hR
theorem apart_any (a1 a2 a3 b1 b2 b3 : Int) (w : World) (h1 : Fits (b1 - a1)) (h2 : Fits (b2 - a2)) :
    Calls Try.prog 67 #[.agg #[.int .i64 a1, .int .i64 a2, .int .i64 a3], .agg #[.int .i64 b1, .int .i64 b2, .int .i64 b3]] w fun e w' => e = .returned (.tuple #[.int .i64 (b1 - a1), .int .i64 (b2 - a2)]) ∧ Below w.heap.size w w' := by
  have k := (Holds.new w 42 #[.int .i64 a1, .int .i64 a2, .int .i64 a3])
  have HW := Lib.hid (below_alloc w (.cells #[.int .i64 a1, .int .i64 a2, .int .i64 a3] 42))
  have k' := (Holds.new (w.alloc (.cells #[.int .i64 a1, .int .i64 a2, .int .i64 a3] 42)) 42 #[.int .i64 b1, .int .i64 b2, .int .i64 b3])
  have hsz := size_alloc w (.cells #[.int .i64 a1, .int .i64 a2, .int .i64 a3] 42)
  have hk := k.below (below_alloc (w.alloc (.cells #[.int .i64 a1, .int .i64 a2, .int .i64 a3] 42)) (.cells #[.int .i64 b1, .int .i64 b2, .int .i64 b3] 42)) k.lt
  rw [hsz] at k'
  have c0 := hk.cell 0
  have c1 := hk.cell 1
  have d0 := k'.cell 0
  have d1 := k'.cell 1
  have e1 := IntWalk.i64_in (b1 - a1) (by unfold Fits at h1; omega)
  have e2 := IntWalk.i64_in (b2 - a2) (by unfold Fits at h2; omega)
  clear k k' hk hsz
  go_enter Try.func67, Try.ntmps67
  go_wp2
  go_quiet (fail)
  go_wp2
  go_ret2
  exact ⟨rfl, below_drewN (HW.out.alloc (by simp) _) _⟩

/-- What a drift counts. -/
def dV (d : Int) : Int := if d < 0 then 0 else if 10 < d then 10 else d
theorem dV_bd (d : Int) : 0 ≤ dV d ∧ dV d ≤ 10 := by
  unfold dV
  split
  · omega
  · split <;> omega
theorem clamp_d (d : Int) : clampV d 0 10 = dV d := by
  unfold clampV dV
  by_cases h : d < 0
  · rw [if_pos (.inl h), if_pos h]
  · rw [if_neg (by omega), if_neg h]
/-- A fraction, as a value. -/
def slV (p : Int × Int) : Value := .agg #[.int .i64 p.1, .int .i64 p.2]
theorem most_any (d : Int) (w : World) :
    Calls Try.prog 64 #[.int .i64 d] w fun e w' => e = .returned (.agg #[.int .i64 (2 * dV d), .int .i64 (1000 - dV d)]) ∧ Below w.heap.size w w' := by
  have hb := dV_bd d
  have hc := clamp_d d
  have e1 := IntWalk.i64_in (2 * dV d) (by omega)
  have e2 := IntWalk.i64_in (1000 - dV d) (by omega)
  have HB := Lib.hid (below_alloc w (.cells #[.int .i64 (2 * dV d), .int .i64 (1000 - dV d)] 107))
  go_enter Try.func64, Try.ntmps64
  go_wp2_with (go_at_call 68; refine (clamp_any d 0 10 _).mono ?_; rintro e w' ⟨rfl, rfl⟩; rw [hc])
  exact end_sl rfl rfl (Holds.new _ _ _) rfl ⟨rfl, HB.out⟩
theorem within_any (a b c d : Int) (w : World) (h1 : Fits (a * d)) (h2 : Fits (c * b)) (h3 : Fits (-(c * b))) (h4 : Fits (-c)) :
    Calls Try.prog 63 #[.agg #[.int .i64 a, .int .i64 b], .agg #[.int .i64 c, .int .i64 d]] w fun e w' => e = .returned (slV (clampS a b c d)) ∧ Below w.heap.size w w' := by
  have k := (Holds.new w 107 #[.int .i64 a, .int .i64 b])
  have HW := Lib.hid (below_alloc w (.cells #[.int .i64 a, .int .i64 b] 107))
  have k' := (Holds.new (w.alloc (.cells #[.int .i64 a, .int .i64 b] 107)) 107 #[.int .i64 c, .int .i64 d])
  have hsz := size_alloc w (.cells #[.int .i64 a, .int .i64 b] 107)
  have hk := k.below (below_alloc (w.alloc (.cells #[.int .i64 a, .int .i64 b] 107)) (.cells #[.int .i64 c, .int .i64 d] 107)) k.lt
  rw [hsz] at k'
  have e1 := IntWalk.i64_in (a * d) (by unfold Fits at h1; omega)
  have e2 := IntWalk.i64_in (c * b) (by unfold Fits at h2; omega)
  have e3 := IntWalk.i64_in (-(c * b)) (by unfold Fits at h3; omega)
  have e4 := IntWalk.i64_in (-c) (by unfold Fits at h4; omega)
  have hv : clampS a b c d = if c * b < a * d then (c, d) else if c * b < -a * d then (-c, d) else (a, b) := rfl
  have HR := Lib.hid ((Holds.new ((w.alloc (.cells #[.int .i64 a, .int .i64 b] 107)).alloc (.cells #[.int .i64 c, .int .i64 d] 107)) 107 #[.int .i64 0, .int .i64 0]))
  have HL := Lib.hid ((HW.out.alloc (by simp) (.cells #[.int .i64 c, .int .i64 d] 107)).alloc (by rw [size_alloc, size_alloc]; omega) (.cells #[.int .i64 0, .int .i64 0] 107))
  have hsz2 := size_alloc (w.alloc (.cells #[.int .i64 a, .int .i64 b] 107)) (.cells #[.int .i64 c, .int .i64 d] 107)
  rw [hsz2, hsz] at HR
  clear hsz2
  have c0 := hk.cell 0
  have c1 := hk.cell 1
  have d0 := k'.cell 0
  have d1 := k'.cell 1
  obtain ⟨X, hX⟩ : ∃ X, a * d = X := ⟨_, rfl⟩
  obtain ⟨Y, hY⟩ : ∃ Y, c * b = Y := ⟨_, rfl⟩
  have hn : -a * d = -X := by rw [Int.neg_mul, hX]
  rw [hn] at hv
  rw [hX] at e1 hv
  rw [hY] at e2 e3 hv
  clear k k' hk hsz h1 h2 h3 h4 hn
  by_cases g1 : Y < X
  · rw [if_pos g1] at hv
    rw [hv]
    clear hv
    go_enter Try.func63, Try.ntmps63
    go_wp2
    go_quiet (fail)
    go_wp2
    exact end_sl rfl rfl (((HR.out.drewN _).put 0 _).put 1 _) rfl ⟨rfl, ((below_drewN HL.out _).setCell (by dsimp only; omega) _).setCell (by dsimp only; omega) _⟩
  · rw [if_neg g1] at hv
    have g1' : decide (Y < X) = false := decide_eq_false g1
    by_cases g2 : Y < -X
    · rw [if_pos g2] at hv
      rw [hv]
      have g3 : X < -Y := by omega
      clear hv
      go_enter Try.func63, Try.ntmps63
      go_wp2
      go_quiet (fail)
      go_wp2
      exact end_sl rfl rfl (((HR.out.drewN _).put 0 _).put 1 _) rfl ⟨rfl, ((below_drewN HL.out _).setCell (by dsimp only; omega) _).setCell (by dsimp only; omega) _⟩
    · rw [if_neg g2] at hv
      rw [hv]
      have g3 : ¬ X < -Y := by omega
      have g3' : decide (X < -Y) = false := decide_eq_false g3
      clear hv
      go_enter Try.func63, Try.ntmps63
      go_wp2
      go_quiet (fail)
      go_wp2
      exact end_sl rfl rfl (((HR.out.drewN _).put 0 _).put 1 _) rfl ⟨rfl, ((below_drewN HL.out _).setCell (by dsimp only; omega) _).setCell (by dsimp only; omega) _⟩
end Go.Proofs.Ytgmeakcfiaopcaa

/- Plain reckoning: products and quotients of numbers of 64 bits in parts of 32 bits. -/
namespace Go.Proofs.Ytgmeakcfiaopcaa
open Go.RowKit Go.IntWalk

theorem and32 (a : Int) (h : 0 ≤ a) (h' : a ≤ 18446744073709551615) : bits .and .u64 a 4294967295 = a % 4294967296 := by
  obtain ⟨n, rfl⟩ := Int.eq_ofNat_of_zero_le h
  have e := bits_and_u64_nat n 4294967295 (by omega) (by omega)
  rw [show n &&& 4294967295 = n % 4294967296 from Nat.and_two_pow_sub_one_eq_mod n 32] at e
  exact e
theorem mul32 (a c : Int) (h : 0 ≤ a) (h1 : a ≤ 4294967295) (g : 0 ≤ c) (g1 : c ≤ 4294967295) : 0 ≤ a * c ∧ a * c ≤ 18446744065119617025 :=
  ⟨Int.mul_nonneg h g, Int.le_trans (Int.mul_le_mul h1 g1 g (by omega)) (by decide)⟩
theorem prod_parts (x y : Int) : x * y = x / 4294967296 * (y / 4294967296) * 18446744073709551616 + (x / 4294967296 * (y % 4294967296) + x % 4294967296 * (y / 4294967296)) * 4294967296 + x % 4294967296 * (y % 4294967296) := by
  have e1 := Int.emod_add_mul_ediv x 4294967296
  have e2 := Int.emod_add_mul_ediv y 4294967296
  generalize x / 4294967296 = b at *
  generalize x % 4294967296 = a at *
  generalize y / 4294967296 = d at *
  generalize y % 4294967296 = c at *
  subst e1 e2
  grind
theorem mul_hi (x y : Int) (hx : 0 ≤ x) (hx' : x ≤ 18446744073709551615) (hy : 0 ≤ y) (hy' : y ≤ 18446744073709551615) :
    IntKind.u64.wrap (IntKind.u64.wrap (IntKind.u64.wrap (x / 4294967296 * (y / 4294967296)) +
      IntKind.u64.wrap (IntKind.u64.wrap (x / 4294967296 * bits BinOp.and IntKind.u64 y 4294967295) + IntKind.u64.wrap (bits BinOp.and IntKind.u64 x 4294967295 * bits BinOp.and IntKind.u64 y 4294967295) / 4294967296) / 4294967296) +
      IntKind.u64.wrap (bits BinOp.and IntKind.u64 (IntKind.u64.wrap (IntKind.u64.wrap (x / 4294967296 * bits BinOp.and IntKind.u64 y 4294967295) + IntKind.u64.wrap (bits BinOp.and IntKind.u64 x 4294967295 * bits BinOp.and IntKind.u64 y 4294967295) / 4294967296)) 4294967295 +
        IntKind.u64.wrap (bits BinOp.and IntKind.u64 x 4294967295 * (y / 4294967296))) / 4294967296) = x * y / 18446744073709551616 := by
  rw [and32 x hx hx', and32 y hy hy']
  have pp := prod_parts x y
  have a1 : 0 ≤ x % 4294967296 ∧ x % 4294967296 ≤ 4294967295 := by omega
  have b1 : 0 ≤ x / 4294967296 ∧ x / 4294967296 ≤ 4294967295 := by omega
  have c1 : 0 ≤ y % 4294967296 ∧ y % 4294967296 ≤ 4294967295 := by omega
  have d1 : 0 ≤ y / 4294967296 ∧ y / 4294967296 ≤ 4294967295 := by omega
  generalize x / 4294967296 = b at *
  generalize x % 4294967296 = a at *
  generalize y / 4294967296 = d at *
  generalize y % 4294967296 = c at *
  have ac := mul32 a c a1.1 a1.2 c1.1 c1.2
  have ad := mul32 a d a1.1 a1.2 d1.1 d1.2
  have bc := mul32 b c b1.1 b1.2 c1.1 c1.2
  have bd := mul32 b d b1.1 b1.2 d1.1 d1.2
  rw [pp]
  generalize a * c = ac' at *
  generalize a * d = ad' at *
  generalize b * c = bc' at *
  generalize b * d = bd' at *
  rw [u64_in ac' (by omega), u64_in ad' (by omega), u64_in bc' (by omega), u64_in bd' (by omega), u64_in (bc' + ac' / 4294967296) (by omega), and32 _ (by omega) (by omega)]
  rw [u64_in (bd' + (bc' + ac' / 4294967296) / 4294967296) (by omega), u64_in ((bc' + ac' / 4294967296) % 4294967296 + ad') (by omega)]
  rw [u64_in _ (by omega)]
  omega
theorem wrap_u64 (x : Int) : IntKind.u64.wrap x = x % 18446744073709551616 := by rw [IntKind.wrap_u64]
end Go.Proofs.Ytgmeakcfiaopcaa

/- Package fix, for the seats of later layers: Size; the library's Mul64 and Len64. -/
namespace Go.Proofs.Ytgmeakcfiaopcaa
open Go.RowKit

theorem u64_negneg (n : Int) (h : n < 0) (h1 : -9223372036854775808 ≤ n) : IntKind.u64.wrap (-IntKind.u64.wrap n) = -n := by
  simp [IntKind.wrap, IntKind.bits, IntKind.signed]; omega
def sizeV (n : Int) : Int := if n < 0 then -n else n
theorem size_any (n : Int) (w : World) (h : Fits n) :
    Calls Try.prog 71 #[.int .i64 n] w fun e w' => e = .returned (.int .u64 (sizeV n)) ∧ w = w' := by
  obtain ⟨h1, h2⟩ := h
  by_cases c : n < 0
  · go_enter Try.func71, Try.ntmps71
    go_wp2
    go_ret
    exact ⟨ret_int (by rw [u64_negneg n (by omega) (by omega)]; unfold sizeV; rw [if_pos c]), rfl⟩
  · go_enter Try.func71, Try.ntmps71
    go_wp2
    go_ret
    exact ⟨ret_int (by unfold sizeV; rw [if_neg (by omega)]), rfl⟩
theorem mul64_any (x y : Int) (w : World) (hx : 0 ≤ x) (hx' : x ≤ 18446744073709551615) (hy : 0 ≤ y) (hy' : y ≤ 18446744073709551615) :
    Calls Try.prog 70 #[.int .u64 x, .int .u64 y] w fun e w' => e = .returned (.tuple #[.int .u64 (x * y / 18446744073709551616), .int .u64 (x * y % 18446744073709551616)]) ∧ w = w' := by
  go_enter Try.func70, Try.ntmps70
  go_wp2
  go_ret2
  exact ⟨ret_ii (mul_hi x y hx hx' hy hy') (wrap_u64 (x * y)), rfl⟩

theorem len_size : ((Lib.len8tab.size : Nat) : Int) = 256 := by rw [Lib.len8tab_size]; rfl
theorem len_get (z : Int) (hh : z.toNat < Lib.len8tab.size) : ((Lib.len8tab[z.toNat]'hh).toNat : Int) = Lib.len8 z := by
  unfold Lib.len8
  rw [getElem?_pos Lib.len8tab z.toNat hh]
  rfl
theorem wrap_small (a b : Nat) (ha : a ≤ 56) (hb : b ≤ 8) : wrap64 ((a : Int) + wrap64 (b : Int)) = ((a + b : Nat) : Int) := by
  unfold wrap64
  omega
theorem len_sum (x z : Int) (k m : Nat) (hx : 1 ≤ x) (h1 : x ≤ 18446744073709551615) (hm : 2 ^ k = m) (hz : z.toNat = x.toNat / m) (h : m ≤ x.toNat) : k + Lib.bitLen z.toNat = Lib.bitLen x.toNat := by
  subst hm
  rw [hz]
  exact (Lib.bitLen_shift k x.toNat h (by omega)).symm
theorem len_at (x z : Int) (k m : Nat) (hx : 1 ≤ x) (h1 : x ≤ 18446744073709551615) (hm : 2 ^ k = m) (hk : k ≤ 56) (hz : z.toNat = x.toNat / m) (h : m ≤ x.toNat) (z0 : 0 ≤ z) (z1 : z ≤ 255) (hh : z.toNat < Lib.len8tab.size) :
    wrap64 ((k : Int) + wrap64 ((Lib.len8tab[z.toNat]'hh).toNat : Int)) = Lib.bitLen x.toNat := by
  rw [len_get z hh, Lib.len8_of z z0 z1, wrap_small k _ hk (Lib.bitLen_le8' z z0 z1), len_sum x z k m hx h1 hm hz h]
set_option maxRecDepth 100000 in
theorem len64_any (x : Int) (w : World) (hx : 1 ≤ x) (hx' : x ≤ 18446744073709551615) :
    Calls Try.prog 75 #[.int .u64 x] w fun e w' => e = .returned (.int .i64 (Lib.bitLen x.toNat)) ∧ w = w' := by
  have hs := len_size
  go_enter Try.func75, Try.ntmps75
  go_wp2
  all_goals (go_ret; refine ⟨ret_int ?_, rfl⟩)
  · exact len_at x _ 56 72057594037927936 hx hx' (by decide) (by omega) (by omega) (by omega) (by omega) (by omega) _
  · exact len_at x _ 48 281474976710656 hx hx' (by decide) (by omega) (by omega) (by omega) (by omega) (by omega) _
  · exact len_at x _ 40 1099511627776 hx hx' (by decide) (by omega) (by omega) (by omega) (by omega) (by omega) _
  · exact len_at x _ 32 4294967296 hx hx' (by decide) (by omega) (by omega) (by omega) (by omega) (by omega) _
  · exact len_at x _ 24 16777216 hx hx' (by decide) (by omega) (by omega) (by omega) (by omega) (by omega) _
  · exact len_at x _ 16 65536 hx hx' (by decide) (by omega) (by omega) (by omega) (by omega) (by omega) _
  · exact len_at x _ 8 256 hx hx' (by decide) (by omega) (by omega) (by omega) (by omega) (by omega) _
  · have := len_at x x 0 1 hx hx' (by decide) (by omega) (by omega) (by omega) (by omega) (by omega) (by rw [Lib.len8tab_size]; omega)
    simpa using this
theorem lead_bits (x : Int) (hx : 1 ≤ x) (hx' : x ≤ 18446744073709551615) : ∃ s : Nat, s ≤ 63 ∧ Lib.bitLen x.toNat + s = 64 ∧ 9223372036854775808 ≤ x * 2 ^ s ∧ x * 2 ^ s ≤ 18446744073709551615 := by
  obtain ⟨h1, h2, h3⟩ := Lib.bitLenAux_bounds 64 x.toNat (by omega) (by omega)
  have h4 := Lib.bitLen_le x.toNat 64 (by omega) (by omega)
  change 1 ≤ Lib.bitLen x.toNat at h1
  change 2 ^ (Lib.bitLen x.toNat - 1) ≤ x.toNat at h2
  change x.toNat < 2 ^ Lib.bitLen x.toNat at h3
  generalize Lib.bitLen x.toNat = L at *
  refine ⟨64 - L, by omega, by omega, ?_⟩
  obtain ⟨n, rfl⟩ := Int.eq_ofNat_of_zero_le (show 0 ≤ x by omega)
  simp only [Int.toNat_natCast] at *
  have e1 : 2 ^ (L - 1) * 2 ^ (64 - L) = 9223372036854775808 := by rw [← Nat.pow_add, show L - 1 + (64 - L) = 63 by omega]
  have e2 : 2 ^ L * 2 ^ (64 - L) = 18446744073709551616 := by rw [← Nat.pow_add, show L + (64 - L) = 64 by omega]
  have g1 := Nat.mul_le_mul_right (2 ^ (64 - L)) h2
  have g2 := Nat.mul_lt_mul_of_pos_right h3 (Nat.two_pow_pos (64 - L))
  have e3 : ((n : Int) * 2 ^ (64 - L)) = ((n * 2 ^ (64 - L) : Nat) : Int) := by rw [Int.natCast_mul, Int.natCast_pow]; rfl
  rw [e3]
  omega
theorem lead_any (x : Int) (w : World) (hx : 1 ≤ x) (hx' : x ≤ 18446744073709551615) (s : Nat) (hs : s ≤ 63) (he : Lib.bitLen x.toNat + s = 64) :
    Calls Try.prog 74 #[.int .u64 x] w fun e w' => e = .returned (.int .i64 s) ∧ w = w' := by
  have H : Hid ((64 : Int) - Lib.bitLen x.toNat = s) := by
    have : (64 : Int) - Lib.bitLen x.toNat = s := by omega
    exact Lib.hid this
  have g0 : (Lib.bitLen x.toNat : Int) ≤ 64 := by omega
  clear he
  go_enter Try.func74, Try.ntmps74
  go_wp2_with (go_at_call 75; refine (len64_any _ _ hx hx').mono ?_; rintro e w' ⟨rfl, rfl⟩)
  go_ret
  exact ⟨ret_int H.out, rfl⟩
end Go.Proofs.Ytgmeakcfiaopcaa

/- Plain reckoning for a quotient of 128 bits by 64 bits: the two guesses, each lowered till it fits, are the two halves of the quotient. -/
namespace Go.Proofs.Ytgmeakcfiaopcaa
open Go.RowKit Go.IntWalk

/-- What holds of a guess q and its rest r. -/
def KInv (u a T q r : Int) : Prop := q * a + r = u ∧ 0 ≤ T ∧ T ≤ 4294967295 ∧ T ≤ q ∧ q ≤ 4294967297 ∧ 0 ≤ r ∧ r ≤ 4294967295
/-- A divisor in two halves, the upper one with its highest bit. -/
def KDiv (Y a b : Int) : Prop := Y = a * 4294967296 + b ∧ 2147483648 ≤ a ∧ a ≤ 4294967295 ∧ 0 ≤ b ∧ b ≤ 4294967295
theorem k_quo {Y a b u v : Int} (hd : KDiv Y a b) (hu : 0 ≤ u) (huY : u < Y) (hv : 0 ≤ v) (hv' : v ≤ 4294967295) :
    0 ≤ (u * 4294967296 + v) / Y ∧ (u * 4294967296 + v) / Y ≤ 4294967295 ∧ (u * 4294967296 + v) / Y * Y ≤ u * 4294967296 + v ∧ u * 4294967296 + v < ((u * 4294967296 + v) / Y + 1) * Y := by
  obtain ⟨h1, h2, h3, h4, h5⟩ := hd
  have hY : 0 < Y := by omega
  refine ⟨Int.ediv_nonneg (by omega) (by omega), ?_, Int.ediv_mul_le _ (by omega), Int.lt_ediv_add_one_mul_self _ hY⟩
  have : (u * 4294967296 + v) / Y < 4294967296 := Int.ediv_lt_of_lt_mul hY (by omega)
  omega
theorem k_start {Y a b u v : Int} (hd : KDiv Y a b) (hu : 0 ≤ u) (huY : u < Y) (hv : 0 ≤ v) (hv' : v ≤ 4294967295) :
    KInv u a ((u * 4294967296 + v) / Y) (u / a) (u - u / a * a) := by
  obtain ⟨t1, t2, t3, t4⟩ := k_quo hd hu huY hv hv'
  obtain ⟨h1, h2, h3, h4, h5⟩ := hd
  have m1 := Int.emod_nonneg u (show a ≠ 0 by omega)
  have m2 := Int.emod_lt_of_pos u (show 0 < a by omega)
  have m3 := Int.emod_add_mul_ediv u a
  rw [Int.mul_comm a] at m3
  have q0 : 0 ≤ u / a := Int.ediv_nonneg hu (by omega)
  generalize (u * 4294967296 + v) / Y = T at *
  refine ⟨by omega, t1, t2, ?_, ?_, by omega, by omega⟩
  · rw [Int.le_ediv_iff_mul_le (by omega)]
    have e : T * Y = T * a * 4294967296 + T * b := by subst h1; grind
    have n : 0 ≤ T * b := Int.mul_nonneg t1 h4
    omega
  · have : u / a < 4294967298 := Int.ediv_lt_of_lt_mul (by omega) (by omega)
    omega
theorem k_over {Y a b u v q r : Int} (hd : KDiv Y a b) (hu : 0 ≤ u) (huY : u < Y) (hv : 0 ≤ v) (hv' : v ≤ 4294967295) (hk : KInv u a ((u * 4294967296 + v) / Y) q r)
    (h : 4294967296 ≤ q ∨ 4294967296 * r + v < q * b) : (u * 4294967296 + v) / Y ≤ q - 1 := by
  obtain ⟨t1, t2, t3, t4⟩ := k_quo hd hu huY hv hv'
  obtain ⟨h1, h2, h3, h4, h5⟩ := hd
  obtain ⟨k1, _, _, k2, k3, k4, k5⟩ := hk
  generalize (u * 4294967296 + v) / Y = T at *
  rcases h with h | h
  · omega
  · have e : q * Y = (q * a) * 4294967296 + q * b := by subst h1; grind
    have l : T * Y < q * Y := by omega
    have := Int.lt_of_mul_lt_mul_right l (by omega)
    omega
theorem k_step {u a T q r : Int} (hk : KInv u a T q r) (h : T ≤ q - 1) (ha : 0 ≤ a) (hr : r + a ≤ 4294967295) : KInv u a T (q - 1) (r + a) := by
  obtain ⟨k1, k6, k7, k2, k3, k4, k5⟩ := hk
  exact ⟨by rw [← k1]; grind, k6, k7, h, by omega, by omega, hr⟩
theorem k_break {Y a b u v q r : Int} (hd : KDiv Y a b) (hu : 0 ≤ u) (huY : u < Y) (hv : 0 ≤ v) (hv' : v ≤ 4294967295) (hk : KInv u a ((u * 4294967296 + v) / Y) q r)
    (h : (u * 4294967296 + v) / Y ≤ q - 1) (hr : 4294967296 ≤ r + a) : q - 1 = (u * 4294967296 + v) / Y := by
  obtain ⟨t1, t2, t3, t4⟩ := k_quo hd hu huY hv hv'
  obtain ⟨h1, h2, h3, h4, h5⟩ := hd
  obtain ⟨k1, _, _, k2, k3, k4, k5⟩ := hk
  generalize (u * 4294967296 + v) / Y = T at *
  have e : (q - 1) * Y = (q * a) * 4294967296 - a * 4294967296 + (q - 1) * b := by subst h1; grind
  have n : (q - 1) * b ≤ 4294967296 * 4294967295 := Int.mul_le_mul (by omega) h5 h4 (by omega)
  have l : (q - 1) * Y < (T + 1) * Y := by omega
  have := Int.lt_of_mul_lt_mul_right l (by omega)
  omega
theorem k_stop {Y a b u v q r : Int} (hd : KDiv Y a b) (hu : 0 ≤ u) (huY : u < Y) (hv : 0 ≤ v) (hv' : v ≤ 4294967295) (hk : KInv u a ((u * 4294967296 + v) / Y) q r)
    (h : q * b ≤ 4294967296 * r + v) : q = (u * 4294967296 + v) / Y := by
  obtain ⟨t1, t2, t3, t4⟩ := k_quo hd hu huY hv hv'
  obtain ⟨h1, h2, h3, h4, h5⟩ := hd
  obtain ⟨k1, _, _, k2, k3, k4, k5⟩ := hk
  generalize (u * 4294967296 + v) / Y = T at *
  have e : q * Y = (q * a) * 4294967296 + q * b := by subst h1; grind
  have l : q * Y < (T + 1) * Y := by omega
  have := Int.lt_of_mul_lt_mul_right l (by omega)
  omega
/-- What is left, reckoned with numbers that go round. -/
theorem k_rest {Y u v : Int} (hY : 0 < Y) (hY' : Y ≤ 18446744073709551615) :
    IntKind.u64.wrap (IntKind.u64.wrap (IntKind.u64.wrap (u * 4294967296) + v) - IntKind.u64.wrap ((u * 4294967296 + v) / Y * Y)) = (u * 4294967296 + v) % Y := by
  have m1 := Int.emod_nonneg (u * 4294967296 + v) (show Y ≠ 0 by omega)
  have m2 := Int.emod_lt_of_pos (u * 4294967296 + v) hY
  have m3 := Int.emod_add_mul_ediv (u * 4294967296 + v) Y
  rw [Int.mul_comm Y] at m3
  generalize (u * 4294967296 + v) / Y * Y = P at *
  simp only [wrap_u64]
  omega
theorem or_parts (h l : Int) (s : Nat) (hs : s ≤ 63) (h0 : 0 ≤ h) (hh : h * 2 ^ s ≤ 18446744073709551615) (l0 : 0 ≤ l) (l1 : l ≤ 18446744073709551615) :
    bits .or .u64 (h * 2 ^ s) (l / 2 ^ (64 - s)) = h * 2 ^ s + l / 2 ^ (64 - s) := by
  obtain ⟨h, rfl⟩ := Int.eq_ofNat_of_zero_le h0
  obtain ⟨l, rfl⟩ := Int.eq_ofNat_of_zero_le l0
  have hp : 2 ^ s * 2 ^ (64 - s) = 18446744073709551616 := by rw [← Nat.pow_add, show s + (64 - s) = 64 by omega]
  have hq : l / 2 ^ (64 - s) < 2 ^ s := by rw [Nat.div_lt_iff_lt_mul (Nat.two_pow_pos _), hp]; omega
  have e1 : ((h : Int) * 2 ^ s) = ((h * 2 ^ s : Nat) : Int) := by rw [Int.natCast_mul, Int.natCast_pow]; rfl
  have e2 : ((l : Int) / 2 ^ (64 - s)) = ((l / 2 ^ (64 - s) : Nat) : Int) := by rw [Int.natCast_ediv, Int.natCast_pow]; rfl
  rw [e1] at hh
  rw [e1, e2, bits_or_u64_nat _ _ (by omega) (by have := Nat.div_le_self l (2 ^ (64 - s)); omega)]
  rw [Nat.mul_comm h, ← Nat.two_pow_add_eq_or_of_lt hq, Int.natCast_add]
theorem shl_parts (l : Int) (s : Nat) (hs : s ≤ 63) : l * 2 ^ s = l / 2 ^ (64 - s) * 18446744073709551616 + IntKind.u64.wrap (l * 2 ^ s) := by
  have hp : (2 : Int) ^ s * 2 ^ (64 - s) = 18446744073709551616 := by rw [← Int.pow_add, show s + (64 - s) = 64 by omega]; rfl
  have e : l * 2 ^ s / 18446744073709551616 = l / 2 ^ (64 - s) := by
    rw [← hp, Int.mul_comm l]
    exact Int.mul_ediv_mul_of_pos _ _ (Int.pow_pos (by decide))
  rw [wrap_u64, ← e]
  omega
/-- The two halves of the quotient, and the rest, brought back. -/
theorem k_back {h l y m Y u v1 v0 Q R T R2 L F : Int} (hm : 0 < m) (hY : Y = y * m) (hy : 0 < y) (hl : l * m = F * 18446744073709551616 + L) (hL : L = v1 * 4294967296 + v0) (hu : u = h * m + F)
    (hQ : Q = (u * 4294967296 + v1) / Y) (hR : R = (u * 4294967296 + v1) % Y) (hT : T = (R * 4294967296 + v0) / Y) (hR2 : R2 = (R * 4294967296 + v0) % Y) :
    Q * 4294967296 + T = (h * 18446744073709551616 + l) / y ∧ R2 / m = (h * 18446744073709551616 + l) % y := by
  have hYp : 0 < Y := by rw [hY]; exact Int.mul_pos hy hm
  have a1 := Int.emod_add_mul_ediv (u * 4294967296 + v1) Y
  rw [← hQ, ← hR] at a1
  have a2 := Int.emod_add_mul_ediv (R * 4294967296 + v0) Y
  rw [← hT, ← hR2] at a2
  have b1 : 0 ≤ R2 := by rw [hR2]; exact Int.emod_nonneg _ (by omega)
  have b2 : R2 < Y := by rw [hR2]; exact Int.emod_lt_of_pos _ hYp
  clear hQ hR hT hR2
  have c1 : (h * 18446744073709551616 + l - y * (Q * 4294967296 + T)) * m = R2 := by subst hY hu hL; grind
  have c2 : R2 / m = h * 18446744073709551616 + l - y * (Q * 4294967296 + T) := by rw [← c1]; exact Int.mul_ediv_cancel _ (by omega)
  have c3 : 0 ≤ h * 18446744073709551616 + l - y * (Q * 4294967296 + T) := by rw [← c2]; exact Int.ediv_nonneg b1 (by omega)
  have c4 : h * 18446744073709551616 + l - y * (Q * 4294967296 + T) < y := by
    rw [← c2]; exact Int.ediv_lt_of_lt_mul hm (by rw [← hY]; exact b2)
  have c5 := (Int.ediv_emod_unique (a := h * 18446744073709551616 + l) (b := y) (r := h * 18446744073709551616 + l - y * (Q * 4294967296 + T)) (q := Q * 4294967296 + T) hy).2 ⟨by omega, c3, c4⟩
  exact ⟨c5.1.symm, by rw [c2, c5.2]⟩
end Go.Proofs.Ytgmeakcfiaopcaa

/- What Div64 of the library answers, where the divisor is above the high part; without conditions beyond that. -/
namespace Go.Proofs.Ytgmeakcfiaopcaa
open Go.RowKit
set_option maxHeartbeats 4000000 in
theorem div64_any (h l y : Int) (w : World) (h0 : 0 ≤ h) (hy : h < y) (hy' : y ≤ 18446744073709551615) (l0 : 0 ≤ l) (l1 : l ≤ 18446744073709551615) :
    Calls Try.prog 72 #[.int .u64 h, .int .u64 l, .int .u64 y] w fun e w' => e = .returned (.tuple #[.int .u64 ((h * 18446744073709551616 + l) / y), .int .u64 ((h * 18446744073709551616 + l) % y)]) ∧ ∃ n, w' = w.drewN n := by
  by_cases c : h = 0
  · subst c
    go_enter Try.func72, Try.ntmps72
    go_wp2
    go_quiet (fail)
    go_wp2
    go_ret2
    exact ⟨ret_ii (by rw [Int.zero_mul, Int.zero_add]) (by rw [Int.zero_mul, Int.zero_add]), ⟨_, rfl⟩⟩
  · obtain ⟨s, s1, s2, s3, s4⟩ := lead_bits y (by omega) hy'
    have H := Lib.hid s2
    clear s2
    have mp : (0 : Int) < 2 ^ s := Int.pow_pos (by decide)
    have hm1 : h * 2 ^ s < y * 2 ^ s := Int.mul_lt_mul_of_pos_right hy mp
    have hm0 : 0 ≤ h * 2 ^ s := Int.mul_nonneg h0 (by omega)
    have hor := or_parts h l s s1 h0 (by omega) l0 l1
    have hsh := shl_parts l s s1
    have hF0 : 0 ≤ l / 2 ^ (64 - s) := Int.ediv_nonneg l0 (Int.le_of_lt (Int.pow_pos (by decide)))
    have huY : h * 2 ^ s + l / 2 ^ (64 - s) < y * 2 ^ s := by
      have e : (y - h) * 2 ^ s = y * 2 ^ s - h * 2 ^ s := by grind
      have e2 : 1 * 2 ^ s ≤ (y - h) * 2 ^ s := Int.mul_le_mul_of_nonneg_right (by omega) (by omega)
      have e3 : l / 2 ^ (64 - s) < 2 ^ s := by
        apply Int.ediv_lt_of_lt_mul (Int.pow_pos (by decide))
        have : (2 : Int) ^ s * 2 ^ (64 - s) = 18446744073709551616 := by rw [← Int.pow_add, show s + (64 - s) = 64 by omega]; rfl
        omega
      omega
    obtain ⟨Y, hY⟩ : ∃ Y, y * 2 ^ s = Y := ⟨_, rfl⟩
    obtain ⟨E, hE⟩ : ∃ E, h * 2 ^ s = E := ⟨_, rfl⟩
    obtain ⟨F, hF⟩ : ∃ F, l / 2 ^ (64 - s) = F := ⟨_, rfl⟩
    obtain ⟨L, hL⟩ : ∃ L, IntKind.u64.wrap (l * 2 ^ s) = L := ⟨_, rfl⟩
    have hLb : 0 ≤ L ∧ L ≤ 18446744073709551615 := by rw [← hL, wrap_u64]; omega
    have hYand : bits .and .u64 Y 4294967295 = Y % 4294967296 := and32 Y (by omega) (by omega)
    have hLand : bits .and .u64 L 4294967295 = L % 4294967296 := and32 L (by omega) (by omega)
    rw [hE, hF] at hor
    rw [hY] at s3 s4 hm1 huY
    rw [hE] at hm1 hm0 huY
    rw [hF] at hF0 huY
    rw [hL, hF] at hsh
    obtain ⟨a, ha⟩ : ∃ a, Y / 4294967296 = a := ⟨_, rfl⟩
    obtain ⟨b, hb⟩ : ∃ b, Y % 4294967296 = b := ⟨_, rfl⟩
    obtain ⟨v1, hv1⟩ : ∃ v1, L / 4294967296 = v1 := ⟨_, rfl⟩
    obtain ⟨v0, hv0⟩ : ∃ v0, L % 4294967296 = v0 := ⟨_, rfl⟩
    obtain ⟨u, hu⟩ : ∃ u, E + F = u := ⟨_, rfl⟩
    rw [hb] at hYand
    rw [hv0] at hLand
    rw [hu] at hor huY
    have hd : KDiv Y a b := by unfold KDiv; omega
    have hL2 : L = v1 * 4294967296 + v0 := by omega
    have hv1b : 0 ≤ v1 ∧ v1 ≤ 4294967295 := by omega
    have hv0b : 0 ≤ v0 ∧ v0 ≤ 4294967295 := by omega
    have hu0 : 0 ≤ u := by omega
    obtain ⟨hv10, hv11⟩ := hv1b
    obtain ⟨hv00, hv01⟩ := hv0b
    have K0 := k_start hd hu0 huY hv10 hv11
    have D := Lib.hid hd
    obtain ⟨hd1, hd2, hd3, hd4, hd5⟩ := hd
    have HB : Hid (l * 2 ^ s = F * 18446744073709551616 + L ∧ L = v1 * 4294967296 + v0 ∧ u = h * 2 ^ s + F) := Lib.hid ⟨hsh, hL2, by rw [hE]; exact hu.symm⟩
    have K1 := K0
    unfold KInv at K1
    obtain ⟨k1, k2, k3, k4, k5, k6, k7⟩ := K1
    have k8 : 0 ≤ u / a * a := Int.mul_nonneg (by omega) (by omega)
    have hR0 := Int.emod_nonneg (u * 4294967296 + v1) (show Y ≠ 0 by omega)
    have hR1 := Int.emod_lt_of_pos (u * 4294967296 + v1) (show 0 < Y by omega)
    have hRw := k_rest (u := u) (v := v1) (show 0 < Y by omega) s4
    obtain ⟨Q, hQ⟩ : ∃ Q, Q = (u * 4294967296 + v1) / Y := ⟨_, rfl⟩
    obtain ⟨R, hR⟩ : ∃ R, R = (u * 4294967296 + v1) % Y := ⟨_, rfl⟩
    rw [← hQ, ← hR] at hRw
    rw [← hQ] at K0 k2 k3
    rw [← hR] at hR0 hR1
    have K2 := k_start D.out hR0 hR1 hv00 hv01
    have K3 := K2
    unfold KInv at K3
    obtain ⟨j1, j2, j3, j4, j5, j6, j7⟩ := K3
    have j8 : 0 ≤ R / a * a := Int.mul_nonneg (by omega) (by omega)
    have hRw2 := k_rest (u := R) (v := v0) (show 0 < Y by omega) s4
    have hR20 := Int.emod_nonneg (R * 4294967296 + v0) (show Y ≠ 0 by omega)
    have hR21 := Int.emod_lt_of_pos (R * 4294967296 + v0) (show 0 < Y by omega)
    obtain ⟨T, hT⟩ : ∃ T, T = (R * 4294967296 + v0) / Y := ⟨_, rfl⟩
    obtain ⟨R2, hR2⟩ : ∃ R2, R2 = (R * 4294967296 + v0) % Y := ⟨_, rfl⟩
    rw [← hT, ← hR2] at hRw2
    rw [← hT] at K2 j2 j3
    rw [← hR2] at hR20 hR21
    have KB := Lib.hid (k_back (h := h) (l := l) mp hY.symm (show 0 < y by omega) HB.out.1 HB.out.2.1 HB.out.2.2 hQ hR hT hR2)
    have HQ := Lib.hid hQ
    have HT := Lib.hid hT
    clear hd1 hL2 hsh HB k1 k4 k5 j1 j4 j5 hQ hR hT hR2
    clear hb hv0 hu
    go_enter Try.func72, Try.ntmps72
    go_wp2_with (go_at_call 74; refine (lead_any _ _ (by omega) hy' s s1 H.out).mono ?_; rintro e w' ⟨rfl, rfl⟩)
    go_loop [15, 16] (fun q r => ∃ qi ri : Int, KInv u a Q qi ri ∧ q = .int .u64 qi ∧ r = .int .u64 ri) (fun q _ => (intOf q).toNat)
    case atStart => exact ⟨_, _, K0, rfl, rfl⟩
    case round =>
      obtain ⟨q, r, hk, rfl, rfl⟩ := hrel
      have kk := hk
      unfold KInv at kk
      obtain ⟨x1, x2, x3, x4, x5, x6, x7⟩ := kk
      clear x1
      have hkQ := hk
      rw [HQ.out] at hkQ
      by_cases over : 4294967296 ≤ q ∨ 4294967296 * r + v1 < q * b
      · have ho := k_over D.out hu0 huY hv10 hv11 hkQ over
        have ho2 := ho
        rw [← HQ.out] at ho2
        by_cases br : r + a ≤ 4294967295
        · have hs := k_step hk ho2 (by omega) br
          by_cases c1 : 4294967296 ≤ q
          · clear over ho hkQ
            go_wp2
            go_round
            case rel => exact ⟨_, _, hs, rfl, rfl⟩
            case measure => simp [intOf]; omega
          · have c2 : 4294967296 * r + v1 < q * b := by omega
            obtain ⟨c3, c4⟩ := mul32 q b (by omega) (by omega) hd4 hd5
            clear over ho hkQ
            go_wp2
            go_round
            case rel => exact ⟨_, _, hs, rfl, rfl⟩
            case measure => simp [intOf]; omega
        · have hq := k_break D.out hu0 huY hv10 hv11 hkQ ho (by omega)
          rw [← HQ.out] at hq
          by_cases c1 : 4294967296 ≤ q
          · clear over ho hkQ hk
            go_wp2
            go_loop [18, 16] (fun q r => ∃ qi ri : Int, KInv R a T qi ri ∧ q = .int .u64 qi ∧ r = .int .u64 ri) (fun q _ => (intOf q).toNat)
            case atStart => exact ⟨_, _, K2, rfl, rfl⟩
            case round =>
              obtain ⟨q2, r2, hk2, rfl, rfl⟩ := hrel
              have kk := hk2
              unfold KInv at kk
              obtain ⟨x1, x2, x3, x4, x5, x6, x7⟩ := kk
              clear x1
              have hkQ := hk2
              rw [HT.out] at hkQ
              by_cases over : 4294967296 ≤ q2 ∨ 4294967296 * r2 + v0 < q2 * b
              · have ho := k_over D.out hR0 hR1 hv00 hv01 hkQ over
                have ho2 := ho
                rw [← HT.out] at ho2
                by_cases br : r2 + a ≤ 4294967295
                · have hs := k_step hk2 ho2 (by omega) br
                  by_cases c1 : 4294967296 ≤ q2
                  · clear over ho hkQ
                    go_wp2
                    go_round
                    case rel => exact ⟨_, _, hs, rfl, rfl⟩
                    case measure => simp [intOf]; omega
                  · have c2 : 4294967296 * r2 + v0 < q2 * b := by omega
                    obtain ⟨c3, c4⟩ := mul32 q2 b (by omega) (by omega) hd4 hd5
                    clear over ho hkQ
                    go_wp2
                    go_round
                    case rel => exact ⟨_, _, hs, rfl, rfl⟩
                    case measure => simp [intOf]; omega
                · have hq := k_break D.out hR0 hR1 hv00 hv01 hkQ ho (by omega)
                  rw [← HT.out] at hq
                  by_cases c1 : 4294967296 ≤ q2
                  · clear over ho hkQ hk2
                    go_wp2
                    go_ret2
                    exact ⟨ret_ii KB.out.1 KB.out.2, ⟨0, rfl⟩⟩
                  · have c2 : 4294967296 * r2 + v0 < q2 * b := by omega
                    obtain ⟨c3, c4⟩ := mul32 q2 b (by omega) (by omega) hd4 hd5
                    clear over ho hkQ hk2
                    go_wp2
                    go_ret2
                    exact ⟨ret_ii KB.out.1 KB.out.2, ⟨0, rfl⟩⟩
              · have hq := k_stop D.out hR0 hR1 hv00 hv01 hkQ (by omega)
                rw [← HT.out] at hq
                obtain ⟨c3, c4⟩ := mul32 q2 b (by omega) (by omega) hd4 hd5
                have c5 : q2 * b ≤ 4294967296 * r2 + v0 := by omega
                have c6 : q2 < 4294967296 := by omega
                clear over hkQ hk2
                subst q2
                go_wp2
                go_ret2
                exact ⟨ret_ii KB.out.1 KB.out.2, ⟨0, rfl⟩⟩
          · have c2 : 4294967296 * r + v1 < q * b := by omega
            obtain ⟨c3, c4⟩ := mul32 q b (by omega) (by omega) hd4 hd5
            clear over ho hkQ hk
            go_wp2
            go_loop [18, 16] (fun q r => ∃ qi ri : Int, KInv R a T qi ri ∧ q = .int .u64 qi ∧ r = .int .u64 ri) (fun q _ => (intOf q).toNat)
            case atStart => exact ⟨_, _, K2, rfl, rfl⟩
            case round =>
              obtain ⟨q2, r2, hk2, rfl, rfl⟩ := hrel
              have kk := hk2
              unfold KInv at kk
              obtain ⟨x1, x2, x3, x4, x5, x6, x7⟩ := kk
              clear x1
              have hkQ := hk2
              rw [HT.out] at hkQ
              by_cases over : 4294967296 ≤ q2 ∨ 4294967296 * r2 + v0 < q2 * b
              · have ho := k_over D.out hR0 hR1 hv00 hv01 hkQ over
                have ho2 := ho
                rw [← HT.out] at ho2
                by_cases br : r2 + a ≤ 4294967295
                · have hs := k_step hk2 ho2 (by omega) br
                  by_cases c1 : 4294967296 ≤ q2
                  · clear over ho hkQ
                    go_wp2
                    go_round
                    case rel => exact ⟨_, _, hs, rfl, rfl⟩
                    case measure => simp [intOf]; omega
                  · have c2 : 4294967296 * r2 + v0 < q2 * b := by omega
                    obtain ⟨c3, c4⟩ := mul32 q2 b (by omega) (by omega) hd4 hd5
                    clear over ho hkQ
                    go_wp2
                    go_round
                    case rel => exact ⟨_, _, hs, rfl, rfl⟩
                    case measure => simp [intOf]; omega
                · have hq := k_break D.out hR0 hR1 hv00 hv01 hkQ ho (by omega)
                  rw [← HT.out] at hq
                  by_cases c1 : 4294967296 ≤ q2
                  · clear over ho hkQ hk2
                    go_wp2
                    go_ret2
                    exact ⟨ret_ii KB.out.1 KB.out.2, ⟨0, rfl⟩⟩
                  · have c2 : 4294967296 * r2 + v0 < q2 * b := by omega
                    obtain ⟨c3, c4⟩ := mul32 q2 b (by omega) (by omega) hd4 hd5
                    clear over ho hkQ hk2
                    go_wp2
                    go_ret2
                    exact ⟨ret_ii KB.out.1 KB.out.2, ⟨0, rfl⟩⟩
              · have hq := k_stop D.out hR0 hR1 hv00 hv01 hkQ (by omega)
                rw [← HT.out] at hq
                obtain ⟨c3, c4⟩ := mul32 q2 b (by omega) (by omega) hd4 hd5
                have c5 : q2 * b ≤ 4294967296 * r2 + v0 := by omega
                have c6 : q2 < 4294967296 := by omega
                clear over hkQ hk2
                subst q2
                go_wp2
                go_ret2
                exact ⟨ret_ii KB.out.1 KB.out.2, ⟨0, rfl⟩⟩
      · have hq := k_stop D.out hu0 huY hv10 hv11 hkQ (by omega)
        rw [← HQ.out] at hq
        obtain ⟨c3, c4⟩ := mul32 q b (by omega) (by omega) hd4 hd5
        have c5 : q * b ≤ 4294967296 * r + v1 := by omega
        have c6 : q < 4294967296 := by omega
        clear over hkQ hk
        subst q
        go_wp2
        go_loop [18, 16] (fun q r => ∃ qi ri : Int, KInv R a T qi ri ∧ q = .int .u64 qi ∧ r = .int .u64 ri) (fun q _ => (intOf q).toNat)
        case atStart => exact ⟨_, _, K2, rfl, rfl⟩
        case round =>
          obtain ⟨q2, r2, hk2, rfl, rfl⟩ := hrel
          have kk := hk2
          unfold KInv at kk
          obtain ⟨x1, x2, x3, x4, x5, x6, x7⟩ := kk
          clear x1
          have hkQ := hk2
          rw [HT.out] at hkQ
          by_cases over : 4294967296 ≤ q2 ∨ 4294967296 * r2 + v0 < q2 * b
          · have ho := k_over D.out hR0 hR1 hv00 hv01 hkQ over
            have ho2 := ho
            rw [← HT.out] at ho2
            by_cases br : r2 + a ≤ 4294967295
            · have hs := k_step hk2 ho2 (by omega) br
              by_cases c1 : 4294967296 ≤ q2
              · clear over ho hkQ
                go_wp2
                go_round
                case rel => exact ⟨_, _, hs, rfl, rfl⟩
                case measure => simp [intOf]; omega
              · have c2 : 4294967296 * r2 + v0 < q2 * b := by omega
                obtain ⟨c3, c4⟩ := mul32 q2 b (by omega) (by omega) hd4 hd5
                clear over ho hkQ
                go_wp2
                go_round
                case rel => exact ⟨_, _, hs, rfl, rfl⟩
                case measure => simp [intOf]; omega
            · have hq := k_break D.out hR0 hR1 hv00 hv01 hkQ ho (by omega)
              rw [← HT.out] at hq
              by_cases c1 : 4294967296 ≤ q2
              · clear over ho hkQ hk2
                go_wp2
                go_ret2
                exact ⟨ret_ii KB.out.1 KB.out.2, ⟨0, rfl⟩⟩
              · have c2 : 4294967296 * r2 + v0 < q2 * b := by omega
                obtain ⟨c3, c4⟩ := mul32 q2 b (by omega) (by omega) hd4 hd5
                clear over ho hkQ hk2
                go_wp2
                go_ret2
                exact ⟨ret_ii KB.out.1 KB.out.2, ⟨0, rfl⟩⟩
          · have hq := k_stop D.out hR0 hR1 hv00 hv01 hkQ (by omega)
            rw [← HT.out] at hq
            obtain ⟨c3, c4⟩ := mul32 q2 b (by omega) (by omega) hd4 hd5
            have c5 : q2 * b ≤ 4294967296 * r2 + v0 := by omega
            have c6 : q2 < 4294967296 := by omega
            clear over hkQ hk2
            subst q2
            go_wp2
            go_ret2
            exact ⟨ret_ii KB.out.1 KB.out.2, ⟨0, rfl⟩⟩
end Go.Proofs.Ytgmeakcfiaopcaa

/- Package fix, for the seats of later layers: what MulDiv answers, for all numbers of 64 bits. -/
namespace Go.Proofs.Ytgmeakcfiaopcaa
open Go.RowKit

theorem size_mul (a b : Int) : sizeV a * sizeV b = if (a < 0) = (b < 0) then a * b else -(a * b) := by
  unfold sizeV
  by_cases h1 : a < 0 <;> by_cases h2 : b < 0 <;> simp [h1, h2, Int.neg_mul, Int.mul_neg]
/-- Rounded down, of a product with the other sign. -/
theorem neg_ediv_down (n c : Int) (hc : 0 < c) : (-n) / c = if n % c = 0 then -(n / c) else -(n / c) - 1 := by
  have e := Int.emod_add_mul_ediv n c
  have l := Int.emod_lt_of_pos n hc
  have m := Int.emod_nonneg n (show c ≠ 0 by omega)
  split
  · rename_i h
    have := (Int.ediv_emod_unique (a := -n) (b := c) (r := 0) (q := -(n / c)) hc).2 ⟨by rw [Int.mul_neg]; omega, by omega, hc⟩
    exact this.1
  · have := (Int.ediv_emod_unique (a := -n) (b := c) (r := c - n % c) (q := -(n / c) - 1) hc).2 ⟨by rw [Int.mul_sub, Int.mul_neg]; omega, by omega, by omega⟩
    exact this.1

def downV (q r : Int) : Int := if r = 0 then -q else -q - 1
theorem down_zero (q : Int) (h : 0 ≤ q) (h' : q ≤ 9223372036854775808) : wrap64 (IntKind.u64.wrap (-q)) = -q := by
  rw [wrap_u64]; unfold wrap64; omega
theorem below_yes (q r : Int) (w : World) (q0 : 0 ≤ q) (r0 : 0 ≤ r) (r1 : r ≤ 18446744073709551615) (h : q < 9223372036854775808 ∨ q = 9223372036854775808 ∧ r = 0) :
    Calls Try.prog 73 #[.int .u64 q, .int .u64 r] w fun e w' => e = .returned (.tuple #[.int .i64 (downV q r), .bool true]) ∧ w = w' := by
  by_cases c : r = 0
  · subst c
    by_cases c2 : q = 9223372036854775808
    · subst c2
      go_enter Try.func73, Try.ntmps73
      go_wp2
      go_ret2
      exact ⟨ret_ib (by rw [down_zero _ (by omega) (by omega)]; unfold downV; rw [if_pos rfl]) rfl, rfl⟩
    · have hl : q < 9223372036854775808 := by omega
      have d1 : (q == 9223372036854775808) = false := by simpa using c2
      clear c2 h
      go_enter Try.func73, Try.ntmps73
      go_wp2
      go_ret2
      exact ⟨ret_ib (by rw [down_zero q (by omega) (by omega)]; unfold downV; rw [if_pos rfl]) rfl, rfl⟩
  · have hl : q < 9223372036854775808 := by omega
    have hr : 0 < r := by omega
    have d1 : (q == 9223372036854775808) = false := by simpa using (show q ≠ 9223372036854775808 by omega)
    have H := Lib.hid c
    clear c h
    go_enter Try.func73, Try.ntmps73
    go_wp2
    go_ret2
    exact ⟨ret_ib (by rw [down_zero (q + 1) (by omega) (by omega)]; unfold downV; rw [if_neg H.out]; omega) rfl, rfl⟩
theorem below_no (q r : Int) (w : World) (q1 : q ≤ 18446744073709551615) (h : 9223372036854775808 < q ∨ q = 9223372036854775808 ∧ 0 < r) :
    Calls Try.prog 73 #[.int .u64 q, .int .u64 r] w fun e w' => e = .returned (.tuple #[.int .i64 0, .bool false]) ∧ w = w' := by
  rcases h with h | ⟨h, h'⟩
  · go_enter Try.func73, Try.ntmps73
    go_wp2
    go_ret2
    exact ⟨rfl, rfl⟩
  · subst h
    go_enter Try.func73, Try.ntmps73
    go_wp2
    go_ret2
    exact ⟨rfl, rfl⟩
theorem div64_parts (P c : Int) (w : World) (h0 : 0 ≤ P) (h1 : P / 18446744073709551616 < c) (hc : c ≤ 9223372036854775807) :
    Calls Try.prog 72 #[.int .u64 (P / 18446744073709551616), .int .u64 (P % 18446744073709551616), .int .u64 c] w fun e w' => e = .returned (.tuple #[.int .u64 (P / c), .int .u64 (P % c)]) ∧ ∃ n, w' = w.drewN n := by
  have e : P / 18446744073709551616 * 18446744073709551616 + P % 18446744073709551616 = P := by omega
  have := div64_any (P / 18446744073709551616) (P % 18446744073709551616) c w (by omega) h1 (by omega) (by omega) (by omega)
  rw [e] at this
  exact this

theorem muldiv_bad (a b c : Int) (w : World) (hc : c < 1) :
    Calls Try.prog 69 #[.int .i64 a, .int .i64 b, .int .i64 c] w fun e w' => e = .returned (.tuple #[.int .i64 0, .bool false]) ∧ ∃ n, w' = w.drewN n := by
  go_enter Try.func69, Try.ntmps69
  go_wp2
  go_ret2
  exact ⟨rfl, ⟨0, rfl⟩⟩

theorem size_bd (a : Int) (h : Fits a) : 0 ≤ sizeV a ∧ sizeV a ≤ 9223372036854775808 := by
  unfold sizeV
  obtain ⟨h1, h2⟩ := h
  split <;> omega
theorem muldiv_core (a b c A B P : Int) (w : World) (ha : Fits a) (hb : Fits b) (h1 : 1 ≤ c) (h2 : c ≤ 9223372036854775807) (hA : sizeV a = A) (hB : sizeV b = B) (hP : A * B = P) (hA0 : 0 ≤ A) (hA1 : A ≤ 9223372036854775808) (hB0 : 0 ≤ B) (hB1 : B ≤ 9223372036854775808) (hP0 : 0 ≤ P) :
    (c ≤ P / 18446744073709551616 → Calls Try.prog 69 #[.int .i64 a, .int .i64 b, .int .i64 c] w fun e w' => e = .returned (.tuple #[.int .i64 0, .bool false]) ∧ ∃ n, w' = w.drewN n) ∧
    (P / 18446744073709551616 < c → (a < 0 ↔ b < 0) → P / c ≤ 9223372036854775807 → Calls Try.prog 69 #[.int .i64 a, .int .i64 b, .int .i64 c] w fun e w' => e = .returned (.tuple #[.int .i64 (P / c), .bool true]) ∧ ∃ n, w' = w.drewN n) ∧
    (P / 18446744073709551616 < c → (a < 0 ↔ b < 0) → 9223372036854775807 < P / c → Calls Try.prog 69 #[.int .i64 a, .int .i64 b, .int .i64 c] w fun e w' => e = .returned (.tuple #[.int .i64 0, .bool false]) ∧ ∃ n, w' = w.drewN n) ∧
    (P / 18446744073709551616 < c → ¬ (a < 0 ↔ b < 0) → (P / c < 9223372036854775808 ∨ P / c = 9223372036854775808 ∧ P % c = 0) → Calls Try.prog 69 #[.int .i64 a, .int .i64 b, .int .i64 c] w fun e w' => e = .returned (.tuple #[.int .i64 (downV (P / c) (P % c)), .bool true]) ∧ ∃ n, w' = w.drewN n) ∧
    (P / 18446744073709551616 < c → ¬ (a < 0 ↔ b < 0) → (9223372036854775808 < P / c ∨ P / c = 9223372036854775808 ∧ 0 < P % c) → Calls Try.prog 69 #[.int .i64 a, .int .i64 b, .int .i64 c] w fun e w' => e = .returned (.tuple #[.int .i64 0, .bool false]) ∧ ∃ n, w' = w.drewN n) := by
  have m0 := Int.emod_nonneg P (show c ≠ 0 by omega)
  have m1 := Int.emod_lt_of_pos P (show 0 < c by omega)
  have q0 : 0 ≤ P / c := Int.ediv_nonneg hP0 (by omega)
  refine ⟨fun g => ?_, fun g g2 g3 => ?_, fun g g2 g3 => ?_, fun g g2 g3 => ?_, fun g g2 g3 => ?_⟩
  · go_enter Try.func69, Try.ntmps69
    go_wp2_with (first
      | (go_at_call 71; refine (size_any _ _ (by assumption)).mono ?_; rintro e w' ⟨rfl, rfl⟩)
      | (go_at_call 70; refine (mul64_any _ _ _ (by omega) (by omega) (by omega) (by omega)).mono ?_; rintro e w' ⟨rfl, rfl⟩))
    go_ret2
    exact ⟨rfl, ⟨0, rfl⟩⟩
  · have hq : P / c < 18446744073709551616 := Int.ediv_lt_of_lt_mul (by omega) (by omega)
    by_cases n1 : a < 0 <;> by_cases n2 : b < 0
    all_goals first | (exfalso; omega) | skip
    all_goals
      clear g2
      try have d1 : decide (a < 0) = false := decide_eq_false (by omega)
      try have d2 : decide (b < 0) = false := decide_eq_false (by omega)
      go_enter Try.func69, Try.ntmps69
      go_wp2_with (first
        | (go_at_call 71; refine (size_any _ _ (by assumption)).mono ?_; rintro e w' ⟨rfl, rfl⟩)
        | (go_at_call 70; refine (mul64_any _ _ _ (by omega) (by omega) (by omega) (by omega)).mono ?_; rintro e w' ⟨rfl, rfl⟩)
        | (go_at_call 72; refine (div64_parts P c _ hP0 (by omega) h2).mono ?_; rintro e w' ⟨rfl, n, rfl⟩))
      go_ret2
      exact ⟨rfl, ⟨_, rfl⟩⟩
  · have hq : P / c < 18446744073709551616 := Int.ediv_lt_of_lt_mul (by omega) (by omega)
    by_cases n1 : a < 0 <;> by_cases n2 : b < 0
    all_goals first | (exfalso; omega) | skip
    all_goals
      clear g2
      try have d1 : decide (a < 0) = false := decide_eq_false (by omega)
      try have d2 : decide (b < 0) = false := decide_eq_false (by omega)
      go_enter Try.func69, Try.ntmps69
      go_wp2_with (first
        | (go_at_call 71; refine (size_any _ _ (by assumption)).mono ?_; rintro e w' ⟨rfl, rfl⟩)
        | (go_at_call 70; refine (mul64_any _ _ _ (by omega) (by omega) (by omega) (by omega)).mono ?_; rintro e w' ⟨rfl, rfl⟩)
        | (go_at_call 72; refine (div64_parts P c _ hP0 (by omega) h2).mono ?_; rintro e w' ⟨rfl, n, rfl⟩))
      go_ret2
      exact ⟨rfl, ⟨_, rfl⟩⟩
  · have hq : P / c < 18446744073709551616 := Int.ediv_lt_of_lt_mul (by omega) (by omega)
    have G := Lib.hid g3
    clear g3
    by_cases n1 : a < 0 <;> by_cases n2 : b < 0
    all_goals first | (exfalso; omega) | skip
    all_goals
      clear g2
      try have d1 : decide (a < 0) = false := decide_eq_false (by omega)
      try have d2 : decide (b < 0) = false := decide_eq_false (by omega)
      go_enter Try.func69, Try.ntmps69
      go_wp2_with (first
        | (go_at_call 71; refine (size_any _ _ (by assumption)).mono ?_; rintro e w' ⟨rfl, rfl⟩)
        | (go_at_call 70; refine (mul64_any _ _ _ (by omega) (by omega) (by omega) (by omega)).mono ?_; rintro e w' ⟨rfl, rfl⟩)
        | (go_at_call 72; refine (div64_parts P c _ hP0 (by omega) h2).mono ?_; rintro e w' ⟨rfl, n, rfl⟩)
        | (go_at_call 73; refine (below_yes _ _ _ q0 m0 (by omega) G.out).mono ?_; rintro e w' ⟨rfl, rfl⟩))
      go_ret2
      exact ⟨rfl, ⟨_, rfl⟩⟩
  · have hq : P / c < 18446744073709551616 := Int.ediv_lt_of_lt_mul (by omega) (by omega)
    have G := Lib.hid g3
    clear g3
    by_cases n1 : a < 0 <;> by_cases n2 : b < 0
    all_goals first | (exfalso; omega) | skip
    all_goals
      clear g2
      try have d1 : decide (a < 0) = false := decide_eq_false (by omega)
      try have d2 : decide (b < 0) = false := decide_eq_false (by omega)
      go_enter Try.func69, Try.ntmps69
      go_wp2_with (first
        | (go_at_call 71; refine (size_any _ _ (by assumption)).mono ?_; rintro e w' ⟨rfl, rfl⟩)
        | (go_at_call 70; refine (mul64_any _ _ _ (by omega) (by omega) (by omega) (by omega)).mono ?_; rintro e w' ⟨rfl, rfl⟩)
        | (go_at_call 72; refine (div64_parts P c _ hP0 (by omega) h2).mono ?_; rintro e w' ⟨rfl, n, rfl⟩)
        | (go_at_call 73; refine (below_no _ _ _ (by omega) G.out).mono ?_; rintro e w' ⟨rfl, rfl⟩))
      go_ret2
      exact ⟨rfl, ⟨_, rfl⟩⟩
theorem muldiv_yes (a b c : Int) (w : World) (ha : Fits a) (hb : Fits b) (h1 : 1 ≤ c) (h2 : c ≤ 9223372036854775807) (h : Fits (a * b / c)) :
    Calls Try.prog 69 #[.int .i64 a, .int .i64 b, .int .i64 c] w fun e w' => e = .returned (.tuple #[.int .i64 (a * b / c), .bool true]) ∧ ∃ n, w' = w.drewN n := by
  obtain ⟨A0, A1⟩ := size_bd a ha
  obtain ⟨B0, B1⟩ := size_bd b hb
  have P0 := Int.mul_nonneg A0 B0
  obtain ⟨q1, q2, q3, q4, q5⟩ := muldiv_core a b c _ _ _ w ha hb h1 h2 rfl rfl rfl A0 A1 B0 B1 P0
  have e := size_mul a b
  have hd := neg_ediv_down (sizeV a * sizeV b) c (by omega)
  generalize sizeV a * sizeV b = P at *
  obtain ⟨f1, f2⟩ := h
  by_cases s : (a < 0 ↔ b < 0)
  · rw [if_pos (propext s)] at e
    rw [← e] at f1 f2 ⊢
    have hP : P < 9223372036854775808 * c := Int.lt_mul_of_ediv_lt (by omega) (by omega)
    exact q2 (by omega) s f2
  · rw [if_neg (fun x => s (iff_of_eq x))] at e
    have e2 : a * b = -P := by omega
    rw [e2] at f1 f2 ⊢
    have m0 := Int.emod_nonneg P (show c ≠ 0 by omega)
    have hq : P / c < 9223372036854775808 ∨ P / c = 9223372036854775808 ∧ P % c = 0 := by split at hd <;> omega
    have hP : P < 9223372036854775809 * c := Int.lt_mul_of_ediv_lt (by omega) (by omega)
    have := q4 (by omega) s hq
    rw [hd]
    exact this
theorem muldiv_no (a b c : Int) (w : World) (ha : Fits a) (hb : Fits b) (h1 : 1 ≤ c) (h2 : c ≤ 9223372036854775807) (h : ¬ Fits (a * b / c)) :
    Calls Try.prog 69 #[.int .i64 a, .int .i64 b, .int .i64 c] w fun e w' => e = .returned (.tuple #[.int .i64 0, .bool false]) ∧ ∃ n, w' = w.drewN n := by
  obtain ⟨A0, A1⟩ := size_bd a ha
  obtain ⟨B0, B1⟩ := size_bd b hb
  have P0 := Int.mul_nonneg A0 B0
  obtain ⟨q1, q2, q3, q4, q5⟩ := muldiv_core a b c _ _ _ w ha hb h1 h2 rfl rfl rfl A0 A1 B0 B1 P0
  have e := size_mul a b
  have hd := neg_ediv_down (sizeV a * sizeV b) c (by omega)
  generalize sizeV a * sizeV b = P at *
  by_cases g : c ≤ P / 18446744073709551616
  · exact q1 g
  have p0 : 0 ≤ P / c := Int.ediv_nonneg P0 (by omega)
  unfold Fits at h
  by_cases s : (a < 0 ↔ b < 0)
  · rw [if_pos (propext s)] at e
    rw [← e] at h
    exact q3 (by omega) s (by omega)
  · rw [if_neg (fun x => s (iff_of_eq x))] at e
    have e2 : a * b = -P := by omega
    rw [e2] at h
    have m0 := Int.emod_nonneg P (show c ≠ 0 by omega)
    exact q5 (by omega) s (by split at hd <;> omega)
end Go.Proofs.Ytgmeakcfiaopcaa

/- Package slope: Gain, and the document's. -/
namespace Go.Proofs.Ytgmeakcfiaopcaa
open Go.RowKit
set_option linter.unusedVariables false
set_option linter.unusedSimpArgs false

/-- What a fraction gains in so many ticks. -/
def gainV (a b t : Int) : Int := if 1 ≤ b ∧ -9223372036854775808 ≤ a * t / b ∧ a * t / b ≤ 9223372036854775807 then a * t / b else 0
theorem gain_any (a b t : Int) (w : World) (ha : Fits a) (hb : Fits b) (ht : Fits t) :
    Calls Try.prog 65 #[.agg #[.int .i64 a, .int .i64 b], .int .i64 t] w fun e w' => e = .returned (.int .i64 (gainV a b t)) ∧ Below w.heap.size w w' := by
  have k := (Holds.new w 107 #[.int .i64 a, .int .i64 b])
  have c0 := k.cell 0
  have c1 := k.cell 1
  have HB := Lib.hid (below_alloc w (.cells #[.int .i64 a, .int .i64 b] 107))
  have hm : ∃ ok : Bool, ∀ W, Calls Try.prog 69 #[.int .i64 a, .int .i64 t, .int .i64 b] W fun e w' => e = .returned (.tuple #[.int .i64 (gainV a b t), .bool ok]) ∧ ∃ n, w' = W.drewN n := by
    unfold gainV
    by_cases h1 : 1 ≤ b
    · by_cases h2 : Fits (a * t / b)
      · rw [if_pos ⟨h1, h2.1, h2.2⟩]
        exact ⟨true, fun W => muldiv_yes a t b W ha ht h1 hb.2 h2⟩
      · rw [if_neg (fun h => h2 ⟨h.2.1, h.2.2⟩)]
        exact ⟨false, fun W => muldiv_no a t b W ha ht h1 hb.2 h2⟩
    · rw [if_neg (fun h => h1 h.1)]
      exact ⟨false, fun W => muldiv_bad a t b W (by omega)⟩
  obtain ⟨ok, hm⟩ := hm
  obtain ⟨V, hV⟩ : ∃ V, gainV a b t = V := ⟨_, rfl⟩
  simp only [hV] at hm ⊢
  have HM := Lib.hid hm
  clear hm hV k
  go_enter Try.func65, Try.ntmps65
  go_wp2_with (go_at_call 69; refine (HM.out _).mono ?_; rintro e w2 ⟨rfl, ⟨nq, rfl⟩⟩)
  go_ret
  exact ⟨rfl, below_drewN HB.out _⟩
end Go.Proofs.Ytgmeakcfiaopcaa

/- Package slope: fits, squares. -/
namespace Go.Proofs.Ytgmeakcfiaopcaa
open Go.RowKit
set_option linter.unusedVariables false
set_option linter.unusedSimpArgs false

/-- How far an entry lies from the first one. -/
def ptO (o e : Ent) : Int × Int := (e.1 - o.1, e.2.1 - o.2.1)
def Near (p : Int × Int) : Prop := 0 ≤ p.1 ∧ p.1 ≤ 4194304 ∧ -4194304 ≤ p.2 ∧ p.2 ≤ 4194304
def headE (L : List Ent) : Ent := L.headD (0, 0, 0)
def ptsL (L : List Ent) : List (Int × Int) := L.map (ptO (headE L))
structure FitsL (L : List Ent) : Prop where
  two : 2 ≤ L.length
  eight : L.length ≤ 8
  each : ∀ e ∈ L, CanE e ∧ Near (ptO (headE L) e)
theorem head_of {L : List Ent} {o : Ent} (h : L[0]? = some o) : headE L = o := by
  cases L with
  | nil => cases h
  | cons x L => simpa [headE] using h
theorem not_near {x y : Int} (h : ¬ Near (x, y)) : x < 0 ∨ (0 ≤ x ∧ 4194304 < x) ∨ (0 ≤ x ∧ x ≤ 4194304 ∧ y < -4194304) ∨ (0 ≤ x ∧ x ≤ 4194304 ∧ -4194304 ≤ y ∧ 4194304 < y) := by
  unfold Near at h
  dsimp only at h
  omega
theorem can_apart {a b : Ent} (ha : CanE a) (hb : CanE b) : Fits (b.1 - a.1) ∧ Fits (b.2.1 - a.2.1) := by
  obtain ⟨a1, a2, a3, a4, _, _⟩ := ha
  obtain ⟨b1, b2, b3, b4, _, _⟩ := hb
  unfold Fits
  omega
theorem below_cells {w w' : World} {b o : Nat} (hb : Below w.heap.size w w') (h : b < w.heap.size) {v : Value} (hc : w.cell? ⟨b, o, none⟩ = some v) : w'.cell? ⟨b, o, none⟩ = some v := (hb.cell (p := ⟨b, o, none⟩) h).trans hc
/-- An entry in a row, and one in a block of its own. -/
structure Six (b p g q : Nat) (o e : Ent) (w : World) : Prop where
  lt1 : b < w.heap.size
  lt2 : g < w.heap.size
  o0 : w.cell? ⟨b, p, none⟩ = some (.int .i64 o.1)
  o1 : w.cell? ⟨b, p + 1, none⟩ = some (.int .i64 o.2.1)
  o2 : w.cell? ⟨b, p + 2, none⟩ = some (.int .i64 o.2.2)
  e0 : w.cell? ⟨g, q, none⟩ = some (.int .i64 e.1)
  e1 : w.cell? ⟨g, q + 1, none⟩ = some (.int .i64 e.2.1)
  e2 : w.cell? ⟨g, q + 2, none⟩ = some (.int .i64 e.2.2)
theorem Six.below {b p g q : Nat} {o e : Ent} {w w' : World} (h : Six b p g q o e w) (hb : Below w.heap.size w w') : Six b p g q o e w' :=
  ⟨Nat.lt_of_lt_of_le h.lt1 hb.size, Nat.lt_of_lt_of_le h.lt2 hb.size, below_cells hb h.lt1 h.o0, below_cells hb h.lt1 h.o1, below_cells hb h.lt1 h.o2, below_cells hb h.lt2 h.e0, below_cells hb h.lt2 h.e1, below_cells hb h.lt2 h.e2⟩
theorem Six.cells {b p g q : Nat} {a0 a1 a2 b0 b1 b2 : Int} {w : World} (h : Six b p g q (a0, a1, a2) (b0, b1, b2) w) :
    w.cell? ⟨b, p, none⟩ = some (.int .i64 a0) ∧ w.cell? ⟨b, p + 1, none⟩ = some (.int .i64 a1) ∧ w.cell? ⟨b, p + 2, none⟩ = some (.int .i64 a2) ∧
    w.cell? ⟨g, q, none⟩ = some (.int .i64 b0) ∧ w.cell? ⟨g, q + 1, none⟩ = some (.int .i64 b1) ∧ w.cell? ⟨g, q + 2, none⟩ = some (.int .i64 b2) ∧ Six b p g q (a0, a1, a2) (b0, b1, b2) w :=
  ⟨h.o0, h.o1, h.o2, h.e0, h.e1, h.e2, h⟩

/-- What fits answers. -/
def FitAns (L : List Ent) (w : World) (e : Ending) (w' : World) : Prop := (e = .returned (.bool true) ∧ FitsL L ∨ e = .returned (.bool false) ∧ ¬ FitsL L) ∧ Below w.heap.size w w'
theorem fit_no {L : List Ent} {w w' : World} (h : ¬ FitsL L) (hb : Below w.heap.size w w') : FitAns L w (.returned (.bool false)) w' := ⟨.inr ⟨rfl, h⟩, hb⟩
theorem fit_yes {L : List Ent} {w w' : World} (h : FitsL L) (hb : Below w.heap.size w w') : FitAns L w (.returned (.bool true)) w' := ⟨.inl ⟨rfl, h⟩, hb⟩
set_option maxHeartbeats 2000000 in
theorem fits_any (w : World) (B : Nat) (A : Option Addr) (n c : Nat) (L : List Ent) (h : TRow w B A n c L) :
    Calls Try.prog 61 #[.slice A n c] w (FitAns L w) := by
  have hlen := h.len
  have hcap := h.cap_le
  have hmx := h.max
  unfold maxLen at hmx
  by_cases n2 : n < 2
  · have hno : ¬ FitsL L := fun hf => by have := hf.two; omega
    have t1 : (n : Int) < 2 := by omega
    clear h hlen
    go_enter Try.func61, Try.ntmps61
    go_wp2
    go_ret
    exact fit_no hno (Below.refl _ _)
  by_cases n8 : 8 < n
  · have hno : ¬ FitsL L := fun hf => by have := hf.eight; omega
    have t1 : ¬ (n : Int) < 2 := by omega
    have t2 : (8 : Int) < n := by omega
    have t3 : decide ((n : Int) < 2) = false := decide_eq_false t1
    clear h hlen
    go_enter Try.func61, Try.ntmps61
    go_wp2
    go_ret
    exact fit_no hno (Below.refl _ _)
  have t1 : ¬ (n : Int) < 2 := by omega
  have t2 : ¬ (8 : Int) < n := by omega
  have t3 : decide ((n : Int) < 2) = false := decide_eq_false t1
  have t4 : decide ((8 : Int) < n) = false := decide_eq_false t2
  obtain ⟨o, ho⟩ : ∃ o, L[0]? = some o := ⟨_, List.getElem?_eq_getElem (by omega)⟩
  have hhd := head_of ho
  have H := Lib.hid h
  have HL := Lib.hid hlen
  have HO := Lib.hid ho
  have HH := Lib.hid hhd
  clear h hlen ho hhd
  go_enter Try.func61, Try.ntmps61
  go_wp2
  go_loopw [17] (fun i wr => ∃ k : Nat, k ≤ n ∧ i = .int .i64 (k : Int) ∧ Below w.heap.size w wr ∧ ∀ j e, j < k → L[j]? = some e → CanE e ∧ Near (ptO o e)) (fun i _ => n - (intOf i).toNat)
  case atStart => exact ⟨0, Nat.zero_le _, rfl, Below.refl _ _, fun j e hj => absurd hj (Nat.not_lt_zero _)⟩
  case round =>
    obtain ⟨k, hk, rfl, hb, hall⟩ := hrel
    have HA := Lib.hid hall
    have HB := Lib.hid hb
    clear hall hb
    by_cases hlt : k < n
    · obtain ⟨x, hx⟩ : ∃ x, L[k]? = some x := ⟨_, List.getElem?_eq_getElem (by rw [HL.out]; exact hlt)⟩
      obtain ⟨b, off, hA, q0, q1, q2⟩ := (H.out.below HB.out).at hx
      obtain ⟨b', off', hA', p0, p1, p2⟩ := (H.out.below HB.out).at HO.out
      obtain ⟨b3, off3, hA3, _, hlt3, _⟩ := (H.out.below HB.out).cell (by omega)
      rw [hA] at hA' hA3
      simp only [Option.some.injEq, Addr.mk.injEq, and_true] at hA' hA3
      obtain ⟨rfl, rfl⟩ := hA'
      obtain ⟨rfl, rfl⟩ := hA3
      subst hA
      obtain ⟨o1, o2, o3⟩ := o
      obtain ⟨x1, x2, x3⟩ := x
      dsimp only at q0 q1 q2 p0 p1 p2
      rw [Nat.zero_mul, Nat.add_zero] at p0 p1 p2
      have hk0 := (Holds.new wr 42 #[.int .i64 x1, .int .i64 x2, .int .i64 x3])
      have hal := below_alloc wr (.cells #[.int .i64 x1, .int .i64 x2, .int .i64 x3] 42)
      have H6 := Lib.hid (show Six b off wr.heap.size 0 (o1, o2, o3) (x1, x2, x3) (wr.alloc (.cells #[.int .i64 x1, .int .i64 x2, .int .i64 x3] 42)) from ⟨Nat.lt_of_lt_of_le hlt3 hal.size, hk0.lt, below_cells hal hlt3 p0, below_cells hal hlt3 p1, below_cells hal hlt3 p2, hk0.cell 0, hk0.cell 1, hk0.cell 2⟩)
      have HX := Lib.hid hx
      have ewk := IntWalk.i64_in ((k : Int) + 1) (by omega)
      have HB1 := Lib.hid (HB.out.alloc HB.out.size (.cells #[.int .i64 x1, .int .i64 x2, .int .i64 x3] 42))
      clear hx hk0 hal hlt3 p0 p1 p2
      by_cases hcan : CanE (x1, x2, x3)
      · have hcano : CanE (o1, o2, o3) := by
          by_cases hk0 : k = 0
          · subst hk0
            have := HO.out.symm.trans HX.out
            cases this
            exact hcan
          · exact (HA.out 0 _ (by omega) HO.out).1
        obtain ⟨f1, f2⟩ := can_apart hcano hcan
        have HC := Lib.hid hcan
        dsimp only at f1 f2
        clear hcano
        go_upto_region 8 with (go_at_call 29; (with_reducible refine (good_yes _ _ _ _ hcan).mono ?_); rintro e w2 ⟨rfl, hb2⟩; have HB2 := Lib.hid (HB1.out.trans (hb2.mono HB1.out.size)); have H62 := Lib.hid (H6.out.below hb2); clear hb2)
        clear hcan q0 q1 q2
        have n0 : 0 < n := by omega
        refine region_turns (fun (w' : World) => w'.cell? ⟨b, off, none⟩ = some (.int .i64 o1) ∧ w'.cell? ⟨b, off + 1, none⟩ = some (.int .i64 o2) ∧ w'.cell? ⟨b, off + 2, none⟩ = some (.int .i64 o3) ∧ w'.cell? ⟨wr.heap.size, 0, none⟩ = some (.int .i64 x1) ∧ w'.cell? ⟨wr.heap.size, 0 + 1, none⟩ = some (.int .i64 x2) ∧ w'.cell? ⟨wr.heap.size, 0 + 2, none⟩ = some (.int .i64 x3) ∧ Six b off wr.heap.size 0 (o1, o2, o3) (x1, x2, x3) w') (fun j => decide (10 ≤ j)) (by kernel_rfl) ((H62.out.below (Below.refl _ _).drew).cells) (fun hS => ?_)
        refine Turns.take hS 0 _ rfl (by kernel_rfl) (by kernel_rfl) (by kernel_rfl) (by kernel_rfl) (fun _ _ _ h => h) (by rfl) (fun w' hS' => by (try dsimp only at hS'); go_split_ands; go_simp; (try with_reducible rfl)) ?_
        simp only [Act.put, List.getElem_toArray, List.getElem_cons_succ, List.getElem_cons_zero, List.setIfInBounds_toArray, List.set_cons_zero, List.set_cons_succ]
        refine Turns.take hS 1 _ rfl (by kernel_rfl) (by kernel_rfl) (by kernel_rfl) (by kernel_rfl) (fun _ _ _ h => h) (by rfl) (fun w' hS' => by (try dsimp only at hS'); go_split_ands; go_simp; (try with_reducible rfl)) ?_
        simp only [Act.put, List.getElem_toArray, List.getElem_cons_succ, List.getElem_cons_zero, List.setIfInBounds_toArray, List.set_cons_zero, List.set_cons_succ]
        refine Turns.take hS 2 _ rfl (by kernel_rfl) (by kernel_rfl) (by kernel_rfl) (by kernel_rfl) (fun _ _ _ h => h) (by rfl) (fun w' hS' => by (try dsimp only at hS'); go_split_ands; go_simp; (try with_reducible rfl)) ?_
        simp only [Act.put, List.getElem_toArray, List.getElem_cons_succ, List.getElem_cons_zero, List.setIfInBounds_toArray, List.set_cons_zero, List.set_cons_succ]
        refine Turns.take hS 3 _ rfl (by kernel_rfl) (by kernel_rfl) (by kernel_rfl) (by kernel_rfl) (fun _ _ _ h => h) (by rfl) (fun w' hS' => by (try dsimp only at hS'); go_split_ands; go_simp; (try with_reducible rfl)) ?_
        simp only [Act.put, List.getElem_toArray, List.getElem_cons_succ, List.getElem_cons_zero, List.setIfInBounds_toArray, List.set_cons_zero, List.set_cons_succ]
        refine Turns.next 4 rfl (by kernel_rfl) (by rfl) (fun K hK => ?_)
        go_simp
        go_at_call 67
        refine (apart_any o1 o2 o3 x1 x2 x3 _ f1 f2).mono ?_
        rintro e w3 ⟨rfl, hb3⟩
        have HB3 := Lib.hid hb3
        have HE := Lib.hid (hS.2.2.2.2.2.2.below hb3)
        refine hK.out _ _ (show (fun (w' : World) => w'.cell? ⟨b, off, none⟩ = some (.int .i64 o1) ∧ w'.cell? ⟨b, off + 1, none⟩ = some (.int .i64 o2) ∧ w'.cell? ⟨b, off + 2, none⟩ = some (.int .i64 o3) ∧ w'.cell? ⟨wr.heap.size, 0, none⟩ = some (.int .i64 x1) ∧ w'.cell? ⟨wr.heap.size, 0 + 1, none⟩ = some (.int .i64 x2) ∧ w'.cell? ⟨wr.heap.size, 0 + 2, none⟩ = some (.int .i64 x3) ∧ Six b off wr.heap.size 0 (o1, o2, o3) (x1, x2, x3) w') _ from HE.out.cells) ?_
        clear hK K hS
        have hS := (show (fun (w' : World) => w'.cell? ⟨b, off, none⟩ = some (.int .i64 o1) ∧ w'.cell? ⟨b, off + 1, none⟩ = some (.int .i64 o2) ∧ w'.cell? ⟨b, off + 2, none⟩ = some (.int .i64 o3) ∧ w'.cell? ⟨wr.heap.size, 0, none⟩ = some (.int .i64 x1) ∧ w'.cell? ⟨wr.heap.size, 0 + 1, none⟩ = some (.int .i64 x2) ∧ w'.cell? ⟨wr.heap.size, 0 + 2, none⟩ = some (.int .i64 x3) ∧ Six b off wr.heap.size 0 (o1, o2, o3) (x1, x2, x3) w') _ from HE.out.cells)
        refine Turns.take hS 5 _ rfl (by kernel_rfl) (by kernel_rfl) (by kernel_rfl) (by kernel_rfl) (fun _ _ _ h => h) (by rfl) (fun w' hS' => by (try dsimp only at hS'); go_split_ands; go_simp; (try with_reducible rfl)) ?_
        simp only [Act.put, List.getElem_toArray, List.getElem_cons_succ, List.getElem_cons_zero, List.setIfInBounds_toArray, List.set_cons_zero, List.set_cons_succ]
        refine Turns.take hS 6 _ rfl (by kernel_rfl) (by kernel_rfl) (by kernel_rfl) (by kernel_rfl) (fun _ _ _ h => h) (by rfl) (fun w' hS' => by (try dsimp only at hS'); go_split_ands; go_simp; (try with_reducible rfl)) ?_
        simp only [Act.put, List.getElem_toArray, List.getElem_cons_succ, List.getElem_cons_zero, List.setIfInBounds_toArray, List.set_cons_zero, List.set_cons_succ]
        refine Turns.take hS 7 _ rfl (by kernel_rfl) (by kernel_rfl) (by kernel_rfl) (by kernel_rfl) (fun _ _ _ h => h) (by rfl) (fun w' hS' => by (try dsimp only at hS'); go_split_ands; go_simp; (try with_reducible rfl)) ?_
        simp only [Act.put, List.getElem_toArray, List.getElem_cons_succ, List.getElem_cons_zero, List.setIfInBounds_toArray, List.set_cons_zero, List.set_cons_succ]
        refine Turns.take hS 8 _ rfl (by kernel_rfl) (by kernel_rfl) (by kernel_rfl) (by kernel_rfl) (fun _ _ _ h => h) (by rfl) (fun w' hS' => by (try dsimp only at hS'); go_split_ands; go_simp; (try with_reducible rfl)) ?_
        simp only [Act.put, List.getElem_toArray, List.getElem_cons_succ, List.getElem_cons_zero, List.setIfInBounds_toArray, List.set_cons_zero, List.set_cons_succ]
        refine Turns.take hS 9 _ rfl (by kernel_rfl) (by kernel_rfl) (by kernel_rfl) (by kernel_rfl) (fun _ _ _ h => h) (by rfl) (fun w' hS' => by (try dsimp only at hS'); go_split_ands; go_simp; (try with_reducible rfl)) ?_
        simp only [Act.put, List.getElem_toArray, List.getElem_cons_succ, List.getElem_cons_zero, List.setIfInBounds_toArray, List.set_cons_zero, List.set_cons_succ]
        refine Turns.rest (late_done (by kernel_rfl)) ?_
        refine any_tail 10 (by rfl) (by kernel_rfl) ?_
        simp only [List.drop_succ_cons, List.drop_zero]
        clear hS
        have HB4 := Lib.hid (HB2.out.drew.trans (hb3.mono HB2.out.drew.size))
        have hsp : ptO (o1, o2, o3) (x1, x2, x3) = (x1 - o1, x2 - o2) := rfl
        obtain ⟨X, hX⟩ : ∃ X, x1 - o1 = X := ⟨_, rfl⟩
        obtain ⟨Y, hY⟩ : ∃ Y, x2 - o2 = Y := ⟨_, rfl⟩
        rw [hX, hY] at hsp
        simp only [hX, hY]
        have HS := Lib.hid hsp
        clear hX hY hsp f1 f2 hb3 HB3 HE H62 H6 HB1 HB2 HB
        by_cases hn : Near (X, Y)
        · have HN := Lib.hid hn
          obtain ⟨g1, g2, g3, g4⟩ := hn
          dsimp only at g1 g2 g3 g4
          have d1 : decide (X < 0) = false := decide_eq_false (by omega)
          have d2 : decide (4194304 < X) = false := decide_eq_false (by omega)
          have d3 : decide (Y < -4194304) = false := decide_eq_false (by omega)
          have d4 : decide (4194304 < Y) = false := decide_eq_false (by omega)
          go_wp2
          go_roundw
          case rel =>
            refine ⟨k + 1, by omega, by go_num, HB4.out, fun j e hj hje => ?_⟩
            by_cases hjk : j = k
            · subst hjk
              have := HX.out.symm.trans hje
              cases this
              rw [HS.out]
              exact ⟨HC.out, HN.out⟩
            · exact HA.out j e (by omega) hje
          case measure => simp [intOf]; omega
        · have hno : ¬ FitsL L := fun hf => hn (by
            have := (hf.each _ (List.mem_of_getElem? HX.out)).2
            rw [HH.out, HS.out] at this
            exact this)
          have HNO := Lib.hid hno
          rcases not_near hn with g1 | ⟨g1, g2⟩ | ⟨g1, g2, g3⟩ | ⟨g1, g2, g3, g4⟩
          all_goals
            clear hn hno
            try have d1 : decide (X < 0) = false := decide_eq_false (by omega)
            try have d2 : decide (4194304 < X) = false := decide_eq_false (by omega)
            try have d3 : decide (Y < -4194304) = false := decide_eq_false (by omega)
            go_wp2
            go_ret
            exact fit_no HNO.out HB4.out
      · have hno : ¬ FitsL L := fun hf => hcan (hf.each _ (List.mem_of_getElem? HX.out)).1
        go_wp2_with (go_at_call 29; (with_reducible refine (good_no _ _ _ _ hcan).mono ?_); rintro e w2 ⟨rfl, hb2⟩)
        go_ret
        exact fit_no hno (HB1.out.trans (hb2.mono HB1.out.size))
    · have hkn : k = n := by omega
      have hyes : FitsL L := ⟨by have := HL.out; omega, by have := HL.out; omega, fun e he => by
        obtain ⟨j, hj⟩ := List.mem_iff_getElem?.1 he
        have hjl := (List.getElem?_eq_some_iff.1 hj).1
        rw [HH.out]
        exact HA.out j e (by rw [HL.out] at hjl; omega) hj⟩
      have l1 : ¬ (k : Int) < n := by omega
      clear hkn
      go_wp2
      go_ret
      exact fit_yes hyes HB.out
end Go.Proofs.Ytgmeakcfiaopcaa

/- Package slope: squares. -/
namespace Go.Proofs.Ytgmeakcfiaopcaa
open Go.RowKit
set_option linter.unusedVariables false
set_option linter.unusedSimpArgs false

theorem near_in {L : List Ent} (h : FitsL L) : ∀ p ∈ ptsL L, Near p := fun p hp => by
  simp only [ptsL, List.mem_map] at hp
  obtain ⟨e, he, rfl⟩ := hp
  exact (h.each e he).2
theorem pts_len (L : List Ent) : (ptsL L).length = L.length := by simp [ptsL]
theorem pts_at {L : List Ent} {k : Nat} {x : Ent} (h : L[k]? = some x) : (ptsL L)[k]? = some (ptO (headE L) x) := by simp [ptsL, h]
/-- How great sums of so few points so near may be. -/
structure SumB (P : List (Int × Int)) : Prop where
  x0 : 0 ≤ sumP pX P
  x1 : sumP pX P ≤ 33554432
  y0 : -33554432 ≤ sumP pY P
  y1 : sumP pY P ≤ 33554432
  xx0 : 0 ≤ sumP pXX P
  xx1 : sumP pXX P ≤ 140737488355328
  xy0 : -140737488355328 ≤ sumP pXY P
  xy1 : sumP pXY P ≤ 140737488355328
theorem near_prod {p : Int × Int} (h : Near p) : (0 ≤ p.1 * p.1 ∧ p.1 * p.1 ≤ 17592186044416) ∧ -17592186044416 ≤ p.1 * p.2 ∧ p.1 * p.2 ≤ 17592186044416 := by
  obtain ⟨h1, h2, h3, h4⟩ := h
  have e1 := prod_bd (x := p.1) (y := p.1) (m := 4194304) (k := 4194304) ⟨by omega, by omega⟩ ⟨by omega, by omega⟩
  have e2 := prod_bd (x := p.1) (y := p.2) (m := 4194304) (k := 4194304) ⟨by omega, by omega⟩ ⟨by omega, by omega⟩
  have e3 := Int.mul_nonneg h1 h1
  omega
theorem sum_b {P : List (Int × Int)} (h : ∀ p ∈ P, Near p) (h8 : P.length ≤ 8) : SumB P := by
  have b1 := sumP_bd pX 0 4194304 P (fun p hp => ⟨(h p hp).1, (h p hp).2.1⟩)
  have b2 := sumP_bd pY (-4194304) 4194304 P (fun p hp => ⟨(h p hp).2.2.1, (h p hp).2.2.2⟩)
  have b3 := sumP_bd pXX 0 17592186044416 P (fun p hp => (near_prod (h p hp)).1)
  have b4 := sumP_bd pXY (-17592186044416) 17592186044416 P (fun p hp => (near_prod (h p hp)).2)
  refine ⟨?_, ?_, ?_, ?_, ?_, ?_, ?_, ?_⟩ <;> omega
theorem take_near {P : List (Int × Int)} (h : ∀ p ∈ P, Near p) (k : Nat) : ∀ p ∈ P.take k, Near p := fun p hp => h p (List.mem_of_mem_take hp)
theorem take_next {α : Type} {P : List α} {k : Nat} {x : α} (h : P[k]? = some x) : P.take (k + 1) = P.take k ++ [x] := by
  have hl := (List.getElem?_eq_some_iff.1 h).1
  rw [List.take_succ_eq_append_getElem hl]
  rw [List.getElem?_eq_getElem hl] at h
  cases h
  rfl
/-- The numerator and the denominator of so few points so near. -/
structure NumB (P : List (Int × Int)) : Prop where
  n1 : -1125899906842624 ≤ (P.length : Int) * sumP pXY P ∧ (P.length : Int) * sumP pXY P ≤ 1125899906842624
  n2 : -1125899906842624 ≤ sumP pX P * sumP pY P ∧ sumP pX P * sumP pY P ≤ 1125899906842624
  d1 : 0 ≤ (P.length : Int) * sumP pXX P ∧ (P.length : Int) * sumP pXX P ≤ 1125899906842624
  d2 : 0 ≤ sumP pX P * sumP pX P ∧ sumP pX P * sumP pX P ≤ 1125899906842624
theorem num_b {P : List (Int × Int)} (h : ∀ p ∈ P, Near p) (h8 : P.length ≤ 8) : NumB P := by
  have b := sum_b h h8
  obtain ⟨b1, b2, b3, b4, b5, b6, b7, b8⟩ := b
  have e1 := prod_bd (x := (P.length : Int)) (y := sumP pXY P) (m := 8) (k := 140737488355328) ⟨by omega, by omega⟩ ⟨by omega, by omega⟩
  have e2 := prod_bd (x := sumP pX P) (y := sumP pY P) (m := 33554432) (k := 33554432) ⟨by omega, by omega⟩ ⟨by omega, by omega⟩
  have e3 := prod_bd (x := (P.length : Int)) (y := sumP pXX P) (m := 8) (k := 140737488355328) ⟨by omega, by omega⟩ ⟨by omega, by omega⟩
  have e4 := prod_bd (x := sumP pX P) (y := sumP pX P) (m := 33554432) (k := 33554432) ⟨by omega, by omega⟩ ⟨by omega, by omega⟩
  have e5 := Int.mul_nonneg (show 0 ≤ (P.length : Int) by omega) b5
  have e6 := Int.mul_nonneg b1 b1
  refine ⟨?_, ?_, ?_, ?_⟩ <;> omega
theorem numden_bd {P : List (Int × Int)} (h : ∀ p ∈ P, Near p) (h8 : P.length ≤ 8) : -2251799813685248 ≤ numV P ∧ numV P ≤ 2251799813685248 ∧ 0 ≤ denV P ∧ denV P ≤ 1125899906842624 := by
  obtain ⟨n1, n2, d1, d2⟩ := num_b h h8
  have := den_nonneg _ P rfl
  unfold numV denV at *
  omega

set_option maxHeartbeats 2000000 in
theorem squares_any (w : World) (B : Nat) (A : Option Addr) (n c : Nat) (L : List Ent) (h : TRow w B A n c L) (hf : FitsL L) :
    Calls Try.prog 62 #[.slice A n c] w fun e w' => e = .returned (slV (numV (ptsL L), denV (ptsL L))) ∧ Below w.heap.size w w' := by
  have hlen := h.len
  have h2 := hf.two
  have h8 := hf.eight
  have hnear := near_in hf
  obtain ⟨P, hP⟩ : ∃ P, ptsL L = P := ⟨_, rfl⟩
  rw [hP] at hnear ⊢
  have hPl : P.length = n := by rw [← hP, pts_len, hlen]
  obtain ⟨nu, hnu⟩ : ∃ nu, numV P = nu := ⟨_, rfl⟩
  obtain ⟨de, hde⟩ : ∃ de, denV P = de := ⟨_, rfl⟩
  rw [hnu, hde]
  obtain ⟨o, ho⟩ : ∃ o, L[0]? = some o := ⟨_, List.getElem?_eq_getElem (by omega)⟩
  have HH := Lib.hid (head_of ho)
  have H := Lib.hid h
  have HL := Lib.hid hlen
  have HO := Lib.hid ho
  have HN := Lib.hid hnear
  have HP := Lib.hid hP
  have HPl := Lib.hid hPl
  have HF := Lib.hid hf
  have HNU := Lib.hid hnu
  have HDE := Lib.hid hde
  have hn2 : 2 ≤ n := by omega
  have hn8 : n ≤ 8 := by omega
  have HB0 := Lib.hid (Box.start w 107 #[.int .i64 0, .int .i64 0])
  clear h hlen ho hnear hP hPl hf h2 h8 hnu hde
  go_enter Try.func62, Try.ntmps62
  go_wp2
  go_loopw [3, 4, 5, 6, 14] (fun sx sy sxx sxy i wr => ∃ k : Nat, k ≤ n ∧ i = .int .i64 (k : Int) ∧ sx = .int .i64 (sumP pX (P.take k)) ∧ sy = .int .i64 (sumP pY (P.take k)) ∧ sxx = .int .i64 (sumP pXX (P.take k)) ∧ sxy = .int .i64 (sumP pXY (P.take k)) ∧ Box w 107 #[.int .i64 0, .int .i64 0] wr) (fun _ _ _ _ i _ => n - (intOf i).toNat)
  case atStart => exact ⟨0, Nat.zero_le _, rfl, rfl, rfl, rfl, rfl, HB0.out⟩
  case round =>
    obtain ⟨k, hk, rfl, rfl, rfl, rfl, rfl, hb⟩ := hrel
    have HB := Lib.hid hb
    clear hb HB0
    by_cases hlt : k < n
    · obtain ⟨x, hx⟩ : ∃ x, L[k]? = some x := ⟨_, List.getElem?_eq_getElem (by rw [HL.out]; exact hlt)⟩
      obtain ⟨b, off, hA, q0, q1, q2⟩ := (H.out.below HB.out.below).at hx
      obtain ⟨b', off', hA', p0, p1, p2⟩ := (H.out.below HB.out.below).at HO.out
      obtain ⟨b3, off3, hA3, _, hlt3, _⟩ := (H.out.below HB.out.below).cell (by omega)
      rw [hA] at hA' hA3
      simp only [Option.some.injEq, Addr.mk.injEq, and_true] at hA' hA3
      obtain ⟨rfl, rfl⟩ := hA'
      obtain ⟨rfl, rfl⟩ := hA3
      subst hA
      have hpx := pts_at hx
      rw [HP.out, HH.out] at hpx
      have hnx := HN.out _ (List.mem_of_getElem? hpx)
      have hpr := near_prod hnx
      have htk := take_next hpx
      have hb0 := sum_b (take_near HN.out k) (by rw [List.length_take, HPl.out]; omega)
      have hb1 := sum_b (take_near HN.out (k + 1)) (by rw [List.length_take, HPl.out]; omega)
      have hcx := (HF.out.each x (List.mem_of_getElem? hx)).1
      have hco := (HF.out.each o (List.mem_of_getElem? HO.out)).1
      obtain ⟨f1, f2⟩ := can_apart hco hcx
      obtain ⟨o1, o2, o3⟩ := o
      obtain ⟨x1, x2, x3⟩ := x
      dsimp only at q0 q1 q2 p0 p1 p2 f1 f2
      rw [Nat.zero_mul, Nat.add_zero] at p0 p1 p2
      have hk0 := (Holds.new wr 42 #[.int .i64 x1, .int .i64 x2, .int .i64 x3])
      have hal := below_alloc wr (.cells #[.int .i64 x1, .int .i64 x2, .int .i64 x3] 42)
      have H6 := Lib.hid (show Six b off wr.heap.size 0 (o1, o2, o3) (x1, x2, x3) (wr.alloc (.cells #[.int .i64 x1, .int .i64 x2, .int .i64 x3] 42)) from ⟨Nat.lt_of_lt_of_le hlt3 hal.size, hk0.lt, below_cells hal hlt3 p0, below_cells hal hlt3 p1, below_cells hal hlt3 p2, hk0.cell 0, hk0.cell 1, hk0.cell 2⟩)
      have ewk := IntWalk.i64_in ((k : Int) + 1) (by omega)
      have HB1 := Lib.hid (HB.out.alloc (.cells #[.int .i64 x1, .int .i64 x2, .int .i64 x3] 42))
      have hsx : sumP pX (P.take (k + 1)) = sumP pX (P.take k) + (x1 - o1) := by rw [htk, sumP_snoc]; rfl
      have hsy : sumP pY (P.take (k + 1)) = sumP pY (P.take k) + (x2 - o2) := by rw [htk, sumP_snoc]; rfl
      have hsxx : sumP pXX (P.take (k + 1)) = sumP pXX (P.take k) + (x1 - o1) * (x1 - o1) := by rw [htk, sumP_snoc]; rfl
      have hsxy : sumP pXY (P.take (k + 1)) = sumP pXY (P.take k) + (x1 - o1) * (x2 - o2) := by rw [htk, sumP_snoc]; rfl
      have hnx' : Near (x1 - o1, x2 - o2) := hnx
      have hpr' : (0 ≤ (x1 - o1) * (x1 - o1) ∧ (x1 - o1) * (x1 - o1) ≤ 17592186044416) ∧ -17592186044416 ≤ (x1 - o1) * (x2 - o2) ∧ (x1 - o1) * (x2 - o2) ≤ 17592186044416 := hpr
      obtain ⟨a1, a2, a3, a4, a5, a6, a7, a8⟩ := hb1
      clear hk0 hal hlt3 p0 p1 p2 hx hpx hnx hpr htk hco hcx hb0 hnx'
      have n0 : 0 < n := by omega
      go_upto_region 5 with (fail)
      clear q0 q1 q2
      refine region_turns (fun (w' : World) => w'.cell? ⟨b, off, none⟩ = some (.int .i64 o1) ∧ w'.cell? ⟨b, off + 1, none⟩ = some (.int .i64 o2) ∧ w'.cell? ⟨b, off + 2, none⟩ = some (.int .i64 o3) ∧ w'.cell? ⟨wr.heap.size, 0, none⟩ = some (.int .i64 x1) ∧ w'.cell? ⟨wr.heap.size, 0 + 1, none⟩ = some (.int .i64 x2) ∧ w'.cell? ⟨wr.heap.size, 0 + 2, none⟩ = some (.int .i64 x3) ∧ Six b off wr.heap.size 0 (o1, o2, o3) (x1, x2, x3) w') (fun j => decide (10 ≤ j)) (by kernel_rfl) ((H6.out.below (Below.refl _ _).drew).cells) (fun hS => ?_)
      refine Turns.take hS 0 _ rfl (by kernel_rfl) (by kernel_rfl) (by kernel_rfl) (by kernel_rfl) (fun _ _ _ h => h) (by rfl) (fun w' hS' => by (try dsimp only at hS'); go_split_ands; go_simp; (try with_reducible rfl)) ?_
      simp only [Act.put, List.getElem_toArray, List.getElem_cons_succ, List.getElem_cons_zero, List.setIfInBounds_toArray, List.set_cons_zero, List.set_cons_succ]
      refine Turns.take hS 1 _ rfl (by kernel_rfl) (by kernel_rfl) (by kernel_rfl) (by kernel_rfl) (fun _ _ _ h => h) (by rfl) (fun w' hS' => by (try dsimp only at hS'); go_split_ands; go_simp; (try with_reducible rfl)) ?_
      simp only [Act.put, List.getElem_toArray, List.getElem_cons_succ, List.getElem_cons_zero, List.setIfInBounds_toArray, List.set_cons_zero, List.set_cons_succ]
      refine Turns.take hS 2 _ rfl (by kernel_rfl) (by kernel_rfl) (by kernel_rfl) (by kernel_rfl) (fun _ _ _ h => h) (by rfl) (fun w' hS' => by (try dsimp only at hS'); go_split_ands; go_simp; (try with_reducible rfl)) ?_
      simp only [Act.put, List.getElem_toArray, List.getElem_cons_succ, List.getElem_cons_zero, List.setIfInBounds_toArray, List.set_cons_zero, List.set_cons_succ]
      refine Turns.take hS 3 _ rfl (by kernel_rfl) (by kernel_rfl) (by kernel_rfl) (by kernel_rfl) (fun _ _ _ h => h) (by rfl) (fun w' hS' => by (try dsimp only at hS'); go_split_ands; go_simp; (try with_reducible rfl)) ?_
      simp only [Act.put, List.getElem_toArray, List.getElem_cons_succ, List.getElem_cons_zero, List.setIfInBounds_toArray, List.set_cons_zero, List.set_cons_succ]
      refine Turns.next 4 rfl (by kernel_rfl) (by rfl) (fun K hK => ?_)
      go_simp
      go_at_call 67
      refine (apart_any o1 o2 o3 x1 x2 x3 _ f1 f2).mono ?_
      rintro e w3 ⟨rfl, hb3⟩
      have HB3 := Lib.hid hb3
      have HE := Lib.hid (hS.2.2.2.2.2.2.below hb3)
      refine hK.out _ _ (show (fun (w' : World) => w'.cell? ⟨b, off, none⟩ = some (.int .i64 o1) ∧ w'.cell? ⟨b, off + 1, none⟩ = some (.int .i64 o2) ∧ w'.cell? ⟨b, off + 2, none⟩ = some (.int .i64 o3) ∧ w'.cell? ⟨wr.heap.size, 0, none⟩ = some (.int .i64 x1) ∧ w'.cell? ⟨wr.heap.size, 0 + 1, none⟩ = some (.int .i64 x2) ∧ w'.cell? ⟨wr.heap.size, 0 + 2, none⟩ = some (.int .i64 x3) ∧ Six b off wr.heap.size 0 (o1, o2, o3) (x1, x2, x3) w') _ from HE.out.cells) ?_
      clear hK K hS
      have hS := (show (fun (w' : World) => w'.cell? ⟨b, off, none⟩ = some (.int .i64 o1) ∧ w'.cell? ⟨b, off + 1, none⟩ = some (.int .i64 o2) ∧ w'.cell? ⟨b, off + 2, none⟩ = some (.int .i64 o3) ∧ w'.cell? ⟨wr.heap.size, 0, none⟩ = some (.int .i64 x1) ∧ w'.cell? ⟨wr.heap.size, 0 + 1, none⟩ = some (.int .i64 x2) ∧ w'.cell? ⟨wr.heap.size, 0 + 2, none⟩ = some (.int .i64 x3) ∧ Six b off wr.heap.size 0 (o1, o2, o3) (x1, x2, x3) w') _ from HE.out.cells)
      refine Turns.take hS 5 _ rfl (by kernel_rfl) (by kernel_rfl) (by kernel_rfl) (by kernel_rfl) (fun _ _ _ h => h) (by rfl) (fun w' hS' => by (try dsimp only at hS'); go_split_ands; go_simp; (try with_reducible rfl)) ?_
      simp only [Act.put, List.getElem_toArray, List.getElem_cons_succ, List.getElem_cons_zero, List.setIfInBounds_toArray, List.set_cons_zero, List.set_cons_succ]
      refine Turns.take hS 6 _ rfl (by kernel_rfl) (by kernel_rfl) (by kernel_rfl) (by kernel_rfl) (fun _ _ _ h => h) (by rfl) (fun w' hS' => by (try dsimp only at hS'); go_split_ands; go_simp; (try with_reducible rfl)) ?_
      simp only [Act.put, List.getElem_toArray, List.getElem_cons_succ, List.getElem_cons_zero, List.setIfInBounds_toArray, List.set_cons_zero, List.set_cons_succ]
      refine Turns.take hS 7 _ rfl (by kernel_rfl) (by kernel_rfl) (by kernel_rfl) (by kernel_rfl) (fun _ _ _ h => h) (by rfl) (fun w' hS' => by (try dsimp only at hS'); go_split_ands; go_simp; (try with_reducible rfl)) ?_
      simp only [Act.put, List.getElem_toArray, List.getElem_cons_succ, List.getElem_cons_zero, List.setIfInBounds_toArray, List.set_cons_zero, List.set_cons_succ]
      refine Turns.take hS 8 _ rfl (by kernel_rfl) (by kernel_rfl) (by kernel_rfl) (by kernel_rfl) (fun _ _ _ h => h) (by rfl) (fun w' hS' => by (try dsimp only at hS'); go_split_ands; go_simp; (try with_reducible rfl)) ?_
      simp only [Act.put, List.getElem_toArray, List.getElem_cons_succ, List.getElem_cons_zero, List.setIfInBounds_toArray, List.set_cons_zero, List.set_cons_succ]
      refine Turns.take hS 9 _ rfl (by kernel_rfl) (by kernel_rfl) (by kernel_rfl) (by kernel_rfl) (fun _ _ _ h => h) (by rfl) (fun w' hS' => by (try dsimp only at hS'); go_split_ands; go_simp; (try with_reducible rfl)) ?_
      simp only [Act.put, List.getElem_toArray, List.getElem_cons_succ, List.getElem_cons_zero, List.setIfInBounds_toArray, List.set_cons_zero, List.set_cons_succ]
      refine Turns.rest (late_done (by kernel_rfl)) ?_
      refine any_tail 10 (by rfl) (by kernel_rfl) ?_
      simp only [List.drop_succ_cons, List.drop_zero]
      clear hS
      have HB4 := Lib.hid (HB1.out.drew.next hb3)
      obtain ⟨X, hX⟩ : ∃ X, x1 - o1 = X := ⟨_, rfl⟩
      obtain ⟨Y, hY⟩ : ∃ Y, x2 - o2 = Y := ⟨_, rfl⟩
      simp only [hX, hY] at hsx hsy hsxx hsxy hpr' ⊢
      clear hX hY f1 f2 hb3 HB3 HE H6 HB1 HB
      have w1 := IntWalk.i64_in (X * X) (by omega)
      have w2 := IntWalk.i64_in (X * Y) (by omega)
      obtain ⟨XX, hXX⟩ : ∃ XX, X * X = XX := ⟨_, rfl⟩
      obtain ⟨XY, hXY⟩ : ∃ XY, X * Y = XY := ⟨_, rfl⟩
      rw [hXX] at w1 hsxx
      rw [hXY] at w2 hsxy
      have w3' : IntKind.i64.wrap (sumP pX (P.take k) + X) = sumP pX (P.take (k + 1)) := by rw [hsx]; exact IntWalk.i64_in _ (by omega)
      have w4' : IntKind.i64.wrap (sumP pY (P.take k) + Y) = sumP pY (P.take (k + 1)) := by rw [hsy]; exact IntWalk.i64_in _ (by omega)
      have w5' : IntKind.i64.wrap (sumP pXX (P.take k) + XX) = sumP pXX (P.take (k + 1)) := by rw [hsxx]; exact IntWalk.i64_in _ (by omega)
      have w6' : IntKind.i64.wrap (sumP pXY (P.take k) + XY) = sumP pXY (P.take (k + 1)) := by rw [hsxy]; exact IntWalk.i64_in _ (by omega)
      clear hpr' a1 a2 a3 a4 a5 a6 a7 a8 hsx hsy hsxx hsxy
      go_wp2
      go_roundw
      case rel => exact ⟨k + 1, by omega, by go_num, rfl, rfl, rfl, rfl, HB4.out⟩
      case measure => simp [intOf]; omega
    · have hkn : k = n := by omega
      have htk : P.take k = P := List.take_of_length_le (by rw [HPl.out]; omega)
      rw [htk]
      obtain ⟨n1, n2, d1, d2⟩ := num_b HN.out (by rw [HPl.out]; exact hn8)
      have hnu : (n : Int) * sumP pXY P - sumP pX P * sumP pY P = nu := by rw [← HNU.out, ← HPl.out]; rfl
      have hde : (n : Int) * sumP pXX P - sumP pX P * sumP pX P = de := by rw [← HDE.out, ← HPl.out]; rfl
      rw [HPl.out] at n1 d1
      have w1 := IntWalk.i64_in ((n : Int) * sumP pXY P) (by omega)
      have w2 := IntWalk.i64_in (sumP pX P * sumP pY P) (by omega)
      have w3 := IntWalk.i64_in ((n : Int) * sumP pXX P) (by omega)
      have w4 := IntWalk.i64_in (sumP pX P * sumP pX P) (by omega)
      have w5 : IntKind.i64.wrap ((n : Int) * sumP pXY P - sumP pX P * sumP pY P) = nu := by rw [← hnu]; exact IntWalk.i64_in _ (by omega)
      have w6 : IntKind.i64.wrap ((n : Int) * sumP pXX P - sumP pX P * sumP pX P) = de := by rw [← hde]; exact IntWalk.i64_in _ (by omega)
      have l1 : ¬ (k : Int) < n := by omega
      clear hnu hde n1 n2 d1 d2 htk hkn
      have c0 := HB.out.holds.cell 0
      have c1 := HB.out.holds.cell 1
      have s0 := HB.out.holds.soft 0
      have s1 := HB.out.holds.soft 1
      go_wp2
      exact end_sl rfl rfl ((HB.out.holds.put 0 _).put 1 _) rfl ⟨rfl, (HB.out.below.setCell (by dsimp only; omega) _).setCell (by dsimp only; omega) _⟩
end Go.Proofs.Ytgmeakcfiaopcaa

/- Package slope: Of. -/
namespace Go.Proofs.Ytgmeakcfiaopcaa
open Go.RowKit
set_option linter.unusedVariables false
set_option linter.unusedSimpArgs false

open Classical in
/-- What Of answers. -/
noncomputable def ofV (d : Int) (L : List Ent) : Int × Int := if FitsL L ∧ denV (ptsL L) ≠ 0 then clampS (numV (ptsL L)) (denV (ptsL L)) (2 * dV d) (1000 - dV d) else (0, 1)
theorem of_is {d : Int} {L : List Ent} (h : FitsL L) (h0 : denV (ptsL L) ≠ 0) : ofV d L = clampS (numV (ptsL L)) (denV (ptsL L)) (2 * dV d) (1000 - dV d) := if_pos ⟨h, h0⟩
theorem of_not {d : Int} {L : List Ent} (h : ¬ FitsL L) : ofV d L = (0, 1) := if_neg (fun k => h k.1)
theorem of_flat {d : Int} {L : List Ent} (h0 : denV (ptsL L) = 0) : ofV d L = (0, 1) := if_neg (fun k => k.2 h0)
theorem fits_len {L : List Ent} (h : FitsL L) : (ptsL L).length ≤ 8 := by rw [pts_len]; exact h.eight
/-- All products are far within 64 bits. -/
theorem of_fits {d : Int} {L : List Ent} (h : FitsL L) : Fits (numV (ptsL L) * (1000 - dV d)) ∧ Fits (2 * dV d * denV (ptsL L)) ∧ Fits (-(2 * dV d * denV (ptsL L))) ∧ Fits (-(2 * dV d)) := by
  obtain ⟨n1, n2, d1, d2⟩ := numden_bd (near_in h) (fits_len h)
  obtain ⟨b1, b2⟩ := dV_bd d
  have e1 := prod_bd (x := numV (ptsL L)) (y := 1000 - dV d) (m := 2251799813685248) (k := 1000) ⟨by omega, by omega⟩ ⟨by omega, by omega⟩
  have e2 := prod_bd (x := 2 * dV d) (y := denV (ptsL L)) (m := 20) (k := 1125899906842624) ⟨by omega, by omega⟩ ⟨by omega, by omega⟩
  unfold Fits
  refine ⟨?_, ?_, ?_, ?_⟩ <;> omega

/-- The memory while Of works: the answer's variable, the squares' one. -/
structure Two2 (w : World) (g : Nat) (nu de : Int) (w' : World) : Prop where
  box : Box w 107 #[.int .i64 0, .int .i64 0] w'
  sq : Holds w' g 107 #[.int .i64 nu, .int .i64 de]
theorem Two2.next {w w' w2 : World} {g : Nat} {nu de : Int} (h : Two2 w g nu de w') (hb : Below w'.heap.size w' w2) : Two2 w g nu de w2 := ⟨h.box.next hb, h.sq.below hb h.sq.lt⟩
theorem Two2.cells {w w' : World} {g : Nat} {nu de : Int} (h : Two2 w g nu de w') : w'.cell? ⟨g, 0, none⟩ = some (.int .i64 nu) ∧ w'.cell? ⟨g, 1, none⟩ = some (.int .i64 de) ∧ Two2 w g nu de w' := ⟨h.sq.cell 0, h.sq.cell 1, h⟩
theorem fits_yes {w : World} {B : Nat} {A : Option Addr} {n c : Nat} {L : List Ent} (h : TRow w B A n c L) (hF : FitsL L) :
    Calls Try.prog 61 #[.slice A n c] w fun e w' => e = .returned (.bool true) ∧ Below w.heap.size w w' := by
  refine (fits_any w B A n c L h).mono ?_
  rintro e w' ⟨⟨rfl, h1⟩ | ⟨rfl, h1⟩, hb⟩
  · exact ⟨rfl, hb⟩
  · exact absurd hF h1
theorem fits_not {w : World} {B : Nat} {A : Option Addr} {n c : Nat} {L : List Ent} (h : TRow w B A n c L) (hF : ¬ FitsL L) :
    Calls Try.prog 61 #[.slice A n c] w fun e w' => e = .returned (.bool false) ∧ Below w.heap.size w w' := by
  refine (fits_any w B A n c L h).mono ?_
  rintro e w' ⟨⟨rfl, h1⟩ | ⟨rfl, h1⟩, hb⟩
  · exact absurd h1 hF
  · exact ⟨rfl, hb⟩
set_option maxHeartbeats 2000000 in
theorem slope_of (d : Int) (w : World) (B : Nat) (A : Option Addr) (n c : Nat) (L : List Ent) (h : TRow w B A n c L) :
    Calls Try.prog 54 #[.int .i64 d, .slice A n c] w fun e w' => e = .returned (slV (ofV d L)) ∧ Below w.heap.size w w' := by
  have HB := Lib.hid (Box.start w 107 #[.int .i64 0, .int .i64 0])
  by_cases hF : FitsL L
  · have hy := fits_yes (h.below (below_alloc w (.cells #[.int .i64 0, .int .i64 0] 107))) hF
    by_cases h0 : denV (ptsL L) = 0
    · rw [of_flat h0]
      have hq := fun W (hW : Below w.heap.size w W) => squares_any W B A n c L (h.below hW) hF
      rw [h0] at hq
      obtain ⟨nu, hnu⟩ : ∃ nu, numV (ptsL L) = nu := ⟨_, rfl⟩
      simp only [hnu] at hq
      have HQ := Lib.hid hq
      clear hq hF h0 hnu h
      go_enter Try.func54, Try.ntmps54
      go_upto_region 4 with (first
        | (go_at_call 61; refine hy.mono ?_; rintro e w2 ⟨rfl, hb2⟩; have HB2 := Lib.hid (HB.out.next hb2); have hsq := HQ.out w2 HB2.out.below; clear hb2)
        | (go_at_call 62; refine hsq.mono ?_; rintro e w3 ⟨rfl, hb3⟩; have HB3 := Lib.hid (HB2.out.next hb3); have q1 := (Holds.new w3 107 #[.int .i64 nu, .int .i64 0]).cell 1; have HB4 := Lib.hid (HB3.out.alloc (.cells #[.int .i64 nu, .int .i64 0] 107)); have c0 := HB4.out.holds.cell 0; have c1 := HB4.out.holds.cell 1; have s0 := HB4.out.holds.soft 0; have s1 := HB4.out.holds.soft 1; unfold slV; clear hb3 hsq))
      go_wp2
      exact end_sl rfl rfl ((HB4.out.holds.put 0 _).put 1 _) rfl ⟨rfl, (HB4.out.below.setCell (by dsimp only; omega) _).setCell (by dsimp only; omega) _⟩
    · have hx := of_fits (d := d) hF
      obtain ⟨x1, x2, x3, x4⟩ := hx
      rw [of_is hF h0]
      have hq := fun W (hW : Below w.heap.size w W) => squares_any W B A n c L (h.below hW) hF
      obtain ⟨nu, hnu⟩ : ∃ nu, numV (ptsL L) = nu := ⟨_, rfl⟩
      obtain ⟨de, hde⟩ : ∃ nu, denV (ptsL L) = nu := ⟨_, rfl⟩
      simp only [hnu, hde] at hq x1 x2 x3 h0 ⊢
      have e0 : (de == 0) = false := by simpa using h0
      have HQ := Lib.hid hq
      clear hq hF hnu hde h
      go_enter Try.func54, Try.ntmps54
      go_upto_region 6 with (first
        | (go_at_call 61; refine hy.mono ?_; rintro e w2 ⟨rfl, hb2⟩; have HB2 := Lib.hid (HB.out.next hb2); have hsq := HQ.out w2 HB2.out.below; clear hb2)
        | (go_at_call 62; refine hsq.mono ?_; rintro e w3 ⟨rfl, hb3⟩; have HB3 := Lib.hid (HB2.out.next hb3); have hn5 := (Holds.new w3 107 #[.int .i64 nu, .int .i64 de]); have q1 := hn5.cell 1; have HB4 := Lib.hid (show Two2 w w3.heap.size nu de _ from ⟨HB3.out.alloc (.cells #[.int .i64 nu, .int .i64 de] 107), hn5⟩); unfold slV; clear hb3 hsq hn5))
      clear hy q1 HB2 HB3 h0 e0 HQ HB
      have hm := fun W => most_any d W
      have hw := fun W => within_any nu de (2 * dV d) (1000 - dV d) W x1 x2 x3 x4
      obtain ⟨r, hr⟩ : ∃ r, clampS nu de (2 * dV d) (1000 - dV d) = r := ⟨_, rfl⟩
      obtain ⟨r1, r2⟩ := r
      simp only [hr] at hw ⊢
      unfold slV at hw
      dsimp only at hw
      have HM := Lib.hid hm
      have HW := Lib.hid hw
      have HR := Lib.hid hr
      clear hr hm hw x1 x2 x3 x4
      refine region_turns (fun (w' : World) => w'.cell? ⟨w3.heap.size, 0, none⟩ = some (.int .i64 nu) ∧ w'.cell? ⟨w3.heap.size, 1, none⟩ = some (.int .i64 de) ∧ Two2 w w3.heap.size nu de w') (fun j => decide (4 ≤ j)) (by kernel_rfl) ((HB4.out.next (Below.refl _ _).drew).cells) (fun hS => ?_)
      refine Turns.take hS 0 _ rfl (by kernel_rfl) (by kernel_rfl) (by kernel_rfl) (by kernel_rfl) (fun _ _ _ h => h) (by rfl) (fun w' hS' => by (try dsimp only at hS'); go_split_ands; go_simp; (try with_reducible rfl)) ?_
      simp only [Act.put, List.getElem_toArray, List.getElem_cons_succ, List.getElem_cons_zero, List.setIfInBounds_toArray, List.set_cons_zero, List.set_cons_succ]
      refine Turns.take hS 1 _ rfl (by kernel_rfl) (by kernel_rfl) (by kernel_rfl) (by kernel_rfl) (fun _ _ _ h => h) (by rfl) (fun w' hS' => by (try dsimp only at hS'); go_split_ands; go_simp; (try with_reducible rfl)) ?_
      simp only [Act.put, List.getElem_toArray, List.getElem_cons_succ, List.getElem_cons_zero, List.setIfInBounds_toArray, List.set_cons_zero, List.set_cons_succ]
      refine Turns.next 2 rfl (by kernel_rfl) (by rfl) (fun K hK => ?_)
      go_simp
      go_at_call 64
      refine (HM.out _).mono ?_
      rintro e w4 ⟨rfl, hb4⟩
      have HE := Lib.hid (hS.2.2.next hb4)
      refine hK.out _ _ (show (fun (w' : World) => w'.cell? ⟨w3.heap.size, 0, none⟩ = some (.int .i64 nu) ∧ w'.cell? ⟨w3.heap.size, 1, none⟩ = some (.int .i64 de) ∧ Two2 w w3.heap.size nu de w') _ from HE.out.cells) ?_
      clear hK K hS
      have hS := (show (fun (w' : World) => w'.cell? ⟨w3.heap.size, 0, none⟩ = some (.int .i64 nu) ∧ w'.cell? ⟨w3.heap.size, 1, none⟩ = some (.int .i64 de) ∧ Two2 w w3.heap.size nu de w') _ from HE.out.cells)
      refine Turns.next 3 rfl (by kernel_rfl) (by rfl) (fun K hK => ?_)
      go_simp
      go_at_call 63
      refine (HW.out _).mono ?_
      rintro e w5 ⟨rfl, hb5⟩
      have HG := Lib.hid (hS.2.2.next hb5)
      refine hK.out _ _ (show (fun (w' : World) => w'.cell? ⟨w3.heap.size, 0, none⟩ = some (.int .i64 nu) ∧ w'.cell? ⟨w3.heap.size, 1, none⟩ = some (.int .i64 de) ∧ Two2 w w3.heap.size nu de w') _ from HG.out.cells) ?_
      clear hK K hS
      have hS := (show (fun (w' : World) => w'.cell? ⟨w3.heap.size, 0, none⟩ = some (.int .i64 nu) ∧ w'.cell? ⟨w3.heap.size, 1, none⟩ = some (.int .i64 de) ∧ Two2 w w3.heap.size nu de w') _ from HG.out.cells)
      refine Turns.rest (late_done (by kernel_rfl)) ?_
      refine any_tail 4 (by rfl) (by kernel_rfl) ?_
      simp only [List.drop_succ_cons, List.drop_zero]
      clear hS
      have c0 := HG.out.box.holds.cell 0
      have c1 := HG.out.box.holds.cell 1
      have s0 := HG.out.box.holds.soft 0
      have s1 := HG.out.box.holds.soft 1
      go_wp2
      exact end_sl rfl rfl ((HG.out.box.holds.put 0 _).put 1 _) rfl ⟨by rw [HR.out]; rfl, (HG.out.box.below.setCell (by dsimp only; omega) _).setCell (by dsimp only; omega) _⟩
  · rw [of_not hF]
    have hy := fits_not (h.below (below_alloc w (.cells #[.int .i64 0, .int .i64 0] 107))) hF
    clear hF h
    go_enter Try.func54, Try.ntmps54
    go_wp2_with (go_at_call 61; refine hy.mono ?_; rintro e w2 ⟨rfl, hb2⟩; have HB2 := Lib.hid (HB.out.next hb2); have c0 := HB2.out.holds.cell 0; have c1 := HB2.out.holds.cell 1; have s0 := HB2.out.holds.soft 0; have s1 := HB2.out.holds.soft 1)
    exact end_sl rfl rfl ((HB2.out.holds.put 0 _).put 1 _) rfl ⟨rfl, (HB2.out.below.setCell (by dsimp only; omega) _).setCell (by dsimp only; omega) _⟩
end Go.Proofs.Ytgmeakcfiaopcaa

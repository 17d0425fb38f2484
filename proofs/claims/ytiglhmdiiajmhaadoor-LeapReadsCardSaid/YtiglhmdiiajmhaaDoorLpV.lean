/- Package leap: the document's error of a table. -/
import Derived.Test.YtiglhmdiiajmhaaDoorLpL
import Derived.Test.YtiglhmdiiajmhaaDoorLpP
import Derived.BigQuiet
namespace Go.Proofs.YtiglhmdiiajmhaaDoor
open Go.RowKit Go.Shelf
set_option linter.unusedVariables false
set_option linter.unusedSimpArgs false
attribute [local go_sem] Oper.semAt_some

theorem not_fine' {st ah en : Int} (h : ¬ FineR st ah en) : st < -719162 ∨ (¬ st < -719162 ∧ 2932896 < st) ∨ (¬ st < -719162 ∧ ¬ 2932896 < st ∧ en < -719162) ∨ (¬ st < -719162 ∧ ¬ 2932896 < st ∧ ¬ en < -719162 ∧ 2932896 < en) ∨
    (¬ st < -719162 ∧ ¬ 2932896 < st ∧ ¬ en < -719162 ∧ ¬ 2932896 < en ∧ en ≤ st) ∨ (¬ st < -719162 ∧ ¬ 2932896 < st ∧ ¬ en < -719162 ∧ ¬ 2932896 < en ∧ ¬ en ≤ st ∧ ah < 0) ∨
    (¬ st < -719162 ∧ ¬ 2932896 < st ∧ ¬ en < -719162 ∧ ¬ 2932896 < en ∧ ¬ en ≤ st ∧ ¬ ah < 0 ∧ 99 < ah) := by
  refine Classical.byContradiction fun k => h ⟨?_, ?_, ?_, ?_, ?_, ?_, ?_⟩ <;> omega
set_option maxRecDepth 100000 in
set_option maxHeartbeats 4000000 in
theorem rfault_bad (w : World) (st ah en : Int) (A : Option Addr) (n c : Nat) (L : List (Int × Int)) (h : ¬ FineR st ah en) :
    Calls Tryd.prog 10 #[.agg #[.int .i64 st, .int .i64 ah, .int .i64 en, .slice A n c]] w fun e w' => e = .returned (.int .i64 1) ∧ Below w.heap.size w w' := by
  have HX := Lib.hid (Box.start w 24 #[.int .i64 st, .int .i64 ah, .int .i64 en, .slice A n c])
  have c0 := HX.out.holds.cell 0
  have c1 := HX.out.holds.cell 1
  have c2 := HX.out.holds.cell 2
  rcases not_fine' h with k | ⟨k1, k⟩ | ⟨k1, k2, k⟩ | ⟨k1, k2, k3, k⟩ | ⟨k1, k2, k3, k4, k⟩ | ⟨k1, k2, k3, k4, k5, k⟩ | ⟨k1, k2, k3, k4, k5, k6, k⟩ <;>
  · clear h
    have d0 := decide_eq_true k
    try have d1 := decide_eq_false k1
    try have d2 := decide_eq_false k2
    try have d3 := decide_eq_false k3
    try have d4 := decide_eq_false k4
    try have d5 := decide_eq_false k5
    try have d6 := decide_eq_false k6
    go_enter Tryd.func10, Tryd.ntmps10
    go_wp2
    go_ret
    exact ⟨rfl, HX.out.below⟩
set_option maxRecDepth 100000 in
set_option maxHeartbeats 8000000 in
theorem rfault_fine (w : World) (st ah en : Int) (A : Option Addr) (n c : Nat) (L : List (Int × Int)) (hr : PRow w A n c L) (hn : n ≤ 1000) (hf : FineR st ah en) :
    Calls Tryd.prog 10 #[.agg #[.int .i64 st, .int .i64 ah, .int .i64 en, .slice A n c]] w fun e w' => e = .returned (.int .i64 (faultT st ah en L)) ∧ Below w.heap.size w w' := by
  have hnl := hr.len
  have hcap := hr.cap_le
  have hmax := hr.max
  unfold maxLen at hmax
  have HX0 := Lib.hid (Box.start w 24 #[.int .i64 st, .int .i64 ah, .int .i64 en, .slice A n c])
  have HR := Lib.hid hr
  have c0 := HX0.out.holds.cell 0
  have c1 := HX0.out.holds.cell 1
  have c2 := HX0.out.holds.cell 2
  have c3 := HX0.out.holds.cell 3
  have d0 : decide (st < -719162) = false := decide_eq_false (by have := hf.s1; omega)
  have d1 : decide (2932896 < st) = false := decide_eq_false (by have := hf.s2; omega)
  have d2 : decide (en < -719162) = false := decide_eq_false (by have := hf.e1; omega)
  have d3 : decide (2932896 < en) = false := decide_eq_false (by have := hf.e2; omega)
  have d4 : decide (en ≤ st) = false := decide_eq_false (by have := hf.lt; omega)
  have d5 : decide (ah < 0) = false := decide_eq_false (by have := hf.a1; omega)
  have d6 : decide (99 < ah) = false := decide_eq_false (by have := hf.a2; omega)
  have HF := Lib.hid hf
  have hft : faultT st ah en L = open Classical in if ¬ Ones L then 1 else if 64 < L.length then 6 else if ¬ OrdL st en L then 12 else 0 := by
    unfold faultT
    rw [if_neg (not_not_intro hf)]
  have HFT := Lib.hid hft
  clear hr hf hft
  go_enter Tryd.func10, Tryd.ntmps10
  go_wp2
  obtain ⟨w0, hw0⟩ : ∃ w0, w.alloc (.cells #[.int .i64 st, .int .i64 ah, .int .i64 en, .slice A n c] 24) = w0 := ⟨_, rfl⟩
  simp only [hw0] at HX0 ⊢
  have HX := Lib.hid (show Box w 24 #[.int .i64 st, .int .i64 ah, .int .i64 en, .slice A n c] w0 from HX0.out)
  clear HX0 hw0 c0 c1 c2 c3 d0 d1 d2 d3 d4 d5 d6
  go_loopw [45] (fun i wr => ∃ k : Nat, k ≤ n ∧ i = .int .i64 (k : Int) ∧ Ones (L.take k) ∧ Box w 24 #[.int .i64 st, .int .i64 ah, .int .i64 en, .slice A n c] wr) (fun i _ => n - (intOf i).toNat)
  case atStart => exact ⟨0, Nat.zero_le _, rfl, by intro e he; simp at he, HX.out⟩
  case round =>
    clear HX
    obtain ⟨k, hk, rfl, ho, hx⟩ := hrel
    have HX := Lib.hid hx
    by_cases hlt : k < n
    · obtain ⟨e, he⟩ : ∃ x, L[k]? = some x := ⟨_, List.getElem?_eq_getElem (by omega)⟩
      have hmem : e ∈ L := List.mem_of_getElem? he
      have hnext : L.take (k + 1) = L.take k ++ [e] := by
        obtain ⟨hk', e'⟩ := List.getElem?_eq_some_iff.1 he
        rw [List.take_succ_eq_append_getElem hk', e']
      obtain ⟨x, y⟩ := e
      obtain ⟨b, off, rfl, hbl, q0, q1⟩ := (HR.out.below HX.out.below).at he
      have hltI : (k : Int) < (n : Int) := by omega
      have ew := IntWalk.i64_in ((k : Int) + 1) (by omega)
      have HY := Lib.hid (Box.start wr 50 #[.int .i64 x, .int .i64 y])
      have x0 := HY.out.holds.cell 0
      have x1 := HY.out.holds.cell 1
      have HXY := Lib.hid (HX.out.next HY.out.below)
      by_cases h1 : y = 1
      · have HO := Lib.hid (show Ones (L.take (k + 1)) from fun e hm => by
          rw [hnext] at hm
          rcases List.mem_append.1 hm with h | h
          · exact ho e h
          · simp at h
            subst h
            exact .inl h1)
        have b1 : (y != 1) = false := by simp [h1]
        clear he hmem hnext ho hx h1
        go_wp2
        go_roundw
        case rel => exact ⟨k + 1, by omega, by go_num, HO.out, HXY.out⟩
        case measure => simp [intOf]; omega
      · have b1 : (y != 1) = true := by simp [h1]
        by_cases h2 : y = -1
        · have HO := Lib.hid (show Ones (L.take (k + 1)) from fun e hm => by
            rw [hnext] at hm
            rcases List.mem_append.1 hm with h | h
            · exact ho e h
            · simp at h
              subst h
              exact .inr h2)
          have b2 : (y != -1) = false := by simp [h2]
          clear he hmem hnext ho hx h1 h2
          go_wp2
          go_roundw
          case rel => exact ⟨k + 1, by omega, by go_num, HO.out, HXY.out⟩
          case measure => simp [intOf]; omega
        · have b2 : (y != -1) = true := by simp [h2]
          have HV := Lib.hid (show faultT st ah en L = 1 by rw [HFT.out, if_pos (fun h => (h _ hmem).elim h1 h2)])
          clear he hmem hnext ho hx h1 h2
          go_wp2
          go_ret
          exact ⟨by rw [HV.out]; rfl, HXY.out.below⟩
    · have hkn : k = n := by omega
      subst hkn
      have hall : L.take k = L := List.take_of_length_le (by omega)
      rw [hall] at ho
      have hft := HFT.out
      rw [if_neg (not_not_intro ho)] at hft
      have hltI : decide ((k : Int) < (k : Int)) = false := decide_eq_false (by omega)
      have c3 := HX.out.holds.cell 3
      clear ho hall hx HFT
      by_cases h64 : 64 < L.length
      · have HV := Lib.hid (show faultT st ah en L = 6 by rw [hft, if_pos h64])
        have e64 : (64 : Int) < (k : Int) := by omega
        clear hft h64
        go_wp2
        go_ret
        exact ⟨by rw [HV.out]; rfl, HX.out.below⟩
      · rw [if_neg h64] at hft
        have HFT := Lib.hid hft
        have e64 : decide ((64 : Int) < (k : Int)) = false := decide_eq_false (by omega)
        clear hft h64
        go_wp2
        clear c3
        go_loopw [65] (fun i wr => ∃ j : Nat, j ≤ k ∧ i = .int .i64 (j : Int) ∧ OrdL st en (L.take j) ∧ Box w 24 #[.int .i64 st, .int .i64 ah, .int .i64 en, .slice A k c] wr) (fun i _ => k - (intOf i).toNat)
        case atStart => exact ⟨0, Nat.zero_le _, rfl, by rw [List.take_zero]; exact ord_nil st en, HX.out⟩
        case round =>
          clear HX hltI e64 hlt hk
          obtain ⟨j, hk, rfl, ho, hx⟩ := hrel
          have HX := Lib.hid hx
          by_cases hlt : j < k
          · obtain ⟨e, he⟩ : ∃ x, L[j]? = some x := ⟨_, List.getElem?_eq_getElem (by omega)⟩
            have hnext : L.take (j + 1) = L.take j ++ [e] := by
              obtain ⟨hk', e'⟩ := List.getElem?_eq_some_iff.1 he
              rw [List.take_succ_eq_append_getElem hk', e']
            obtain ⟨x, y⟩ := e
            have hsn := ord_snoc ho x y
            rw [← hnext] at hsn
            have htk := takes_iff ho x
            have HNO := Lib.hid (show ¬ OrdL st en (L.take (j + 1)) → faultT st ah en L = 12 from fun h => by
              rw [HFT.out, if_pos (fun h' => h (ord_pre h' (List.take_prefix _ _)))])
            have HPR := Lib.hid (HR.out.below HX.out.below)
            obtain ⟨b, off, rfl, hbl, q0, q1⟩ := HPR.out.at he
            have hltI : (j : Int) < (k : Int) := by omega
            have ew := IntWalk.i64_in ((j : Int) + 1) (by omega)
            have HY := Lib.hid (Box.start wr 50 #[.int .i64 x, .int .i64 y])
            have x0 := HY.out.holds.cell 0
            have x1 := HY.out.holds.cell 1
            have HXY := Lib.hid (HX.out.next HY.out.below)
            have c0 := HXY.out.holds.cell 0
            have c2 := HXY.out.holds.cell 2
            have c3 := HXY.out.holds.cell 3
            by_cases h1 : x < st
            · have d1 : decide (x < st) = true := decide_eq_true h1
              have HV := Lib.hid (HNO.out (fun h => by have := htk.1 (hsn.1 h).1; omega))
              clear he hnext ho hx h1 hsn htk
              go_upto_region 14 with (fail)
              go_quiet (fail)
              go_wp2
              go_ret
              exact ⟨by rw [HV.out]; rfl, (HXY.out.drewN _).below⟩
            · have d1 : decide (x < st) = false := decide_eq_false h1
              by_cases h2 : en ≤ x
              · have d2 : decide (en ≤ x) = true := decide_eq_true h2
                have HV := Lib.hid (HNO.out (fun h => by have := (hsn.1 h).2; omega))
                clear he hnext ho hx h1 h2 hsn htk
                go_upto_region 14 with (fail)
                go_quiet (fail)
                go_wp2
                go_ret
                exact ⟨by rw [HV.out]; rfl, (HXY.out.drewN _).below⟩
              · have d2 : decide (en ≤ x) = false := decide_eq_false h2
                by_cases hj : j = 0
                · have d3 : decide (0 < j) = false := decide_eq_false (by omega)
                  have HO := Lib.hid (hsn.2 ⟨htk.2 ⟨by omega, by subst hj; simp⟩, by omega⟩)
                  clear he hnext ho hx h1 h2 hsn htk hj
                  go_upto_region 14 with (fail)
                  go_quiet (fail)
                  go_wp2
                  go_roundw
                  case rel => exact ⟨j + 1, by omega, by go_num, HO.out, HXY.out.drewN _⟩
                  case measure => simp [intOf]; omega
                · obtain ⟨i, hi⟩ : ∃ i : Nat, j = i + 1 := ⟨j - 1, by omega⟩
                  have d3 : decide (0 < j) = true := decide_eq_true (by omega)
                  have ew2 : IntKind.i64.wrap ((j : Int) - 1) = (i : Int) := by rw [IntWalk.i64_in _ (by omega)]; omega
                  have hik : (i : Int) < (k : Int) := by omega
                  obtain ⟨e', he'⟩ : ∃ x, L[i]? = some x := ⟨_, List.getElem?_eq_getElem (by omega)⟩
                  have hnp : L.take j = L.take i ++ [e'] := by
                    obtain ⟨hk', e''⟩ := List.getElem?_eq_some_iff.1 he'
                    rw [hi, List.take_succ_eq_append_getElem hk', e'']
                  obtain ⟨x', y'⟩ := e'
                  rw [hnp, takes_snoc] at hsn
                  dsimp only at hsn
                  obtain ⟨b', off', eA, hbl', p0', p1'⟩ := HPR.out.at he'
                  simp only [Option.some.injEq, Addr.mk.injEq, and_true] at eA
                  obtain ⟨rfl, rfl⟩ := eA
                  have p0 := (HY.out.below.cell (p := ⟨b, off + i * 2, none⟩) hbl).trans p0'
                  by_cases h3 : x ≤ x'
                  · have d4 : decide (x ≤ x') = true := decide_eq_true h3
                    have HV := Lib.hid (HNO.out (fun h => by have := decide_eq_true_iff.1 (hsn.1 h).1; omega))
                    clear he he' hnp hnext ho hx h1 h2 h3 hsn htk p0' p1' hbl' hj hi
                    go_upto_region 14 with (fail)
                    go_quiet (fail)
                    go_wp2
                    go_ret
                    exact ⟨by rw [HV.out]; rfl, (HXY.out.drewN _).below⟩
                  · have d4 : decide (x ≤ x') = false := decide_eq_false h3
                    have HO := Lib.hid (hsn.2 ⟨decide_eq_true_iff.2 (by omega), by omega⟩)
                    clear he he' hnp hnext ho hx h1 h2 h3 hsn htk p0' p1' hbl' hj hi
                    go_upto_region 14 with (fail)
                    go_quiet (fail)
                    go_wp2
                    go_roundw
                    case rel => exact ⟨j + 1, by omega, by go_num, HO.out, HXY.out.drewN _⟩
                    case measure => simp [intOf]; omega
          · have hkn : j = k := by omega
            subst hkn
            have hall : L.take j = L := List.take_of_length_le (by omega)
            rw [hall] at ho
            have HV := Lib.hid (show faultT st ah en L = 0 by rw [HFT.out, if_neg (not_not_intro ho)])
            have hltI : decide ((j : Int) < (j : Int)) = false := decide_eq_false (by omega)
            clear ho hall hx
            go_wp2
            go_ret
            exact ⟨by rw [HV.out]; rfl, HX.out.below⟩
theorem rfault_any (w : World) (st ah en : Int) (A : Option Addr) (n c : Nat) (L : List (Int × Int)) (hr : PRow w A n c L) (hn : n ≤ 1000) :
    Calls Tryd.prog 10 #[.agg #[.int .i64 st, .int .i64 ah, .int .i64 en, .slice A n c]] w fun e w' => e = .returned (.int .i64 (faultT st ah en L)) ∧ Below w.heap.size w w' := by
  by_cases h : FineR st ah en
  · exact rfault_fine w st ah en A n c L hr hn h
  · have hf : faultT st ah en L = 1 := by unfold faultT; rw [if_pos h]
    rw [hf]
    exact rfault_bad w st ah en A n c L h
end Go.Proofs.YtiglhmdiiajmhaaDoor

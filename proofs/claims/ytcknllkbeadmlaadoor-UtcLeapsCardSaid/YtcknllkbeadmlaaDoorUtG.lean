/- Package utc: Tai; the document's Begin, date, Tai. -/
import Derived.Test.YtcknllkbeadmlaaDoorUtF
import Derived.Test.YtcknllkbeadmlaaDoorUtE
import Derived.Test.YtcknllkbeadmlaaDoorLpR
import Derived.Test.YtcknllkbeadmlaaDoorLpS
namespace Go.Proofs.YtcknllkbeadmlaaDoor
open Go.RowKit
set_option linter.unusedSimpArgs false
set_option linter.unusedVariables false

open Classical in
/-- The second of TAI that one of UTC is; or the error's number. -/
noncomputable def taiR (st ah en : Int) (L : List (Int × Int)) (y m d H M S : Int) : Int × Int :=
  if ¬ (CanD y m d ∧ CanT H M S) then (0, 1) else if numV y m d < st ∨ en ≤ numV y m d then (0, 11) else if lenV L (numV y m d) ≤ secV H M S then (0, 7) else (beginV ah L (numV y m d) + secV H M S, 0)
section
variable {st ah en : Int} {L : List (Int × Int)} {y m d H M S : Int}
theorem taiR_arg (h : ¬ (CanD y m d ∧ CanT H M S)) : taiR st ah en L y m d H M S = (0, 1) := by unfold taiR; rw [if_pos h]
theorem taiR_past (h : CanD y m d ∧ CanT H M S) (k : numV y m d < st ∨ en ≤ numV y m d) : taiR st ah en L y m d H M S = (0, 11) := by unfold taiR; rw [if_neg (not_not_intro h), if_pos k]
theorem taiR_none (h : CanD y m d ∧ CanT H M S) (k : ¬ (numV y m d < st ∨ en ≤ numV y m d)) (l : lenV L (numV y m d) ≤ secV H M S) : taiR st ah en L y m d H M S = (0, 7) := by unfold taiR; rw [if_neg (not_not_intro h), if_neg k, if_pos l]
theorem taiR_yes (h : CanD y m d ∧ CanT H M S) (k : ¬ (numV y m d < st ∨ en ≤ numV y m d)) (l : ¬ lenV L (numV y m d) ≤ secV H M S) : taiR st ah en L y m d H M S = (beginV ah L (numV y m d) + secV H M S, 0) := by unfold taiR; rw [if_neg (not_not_intro h), if_neg k, if_neg l]
theorem secs_of (k : CanT H M S) : IntKind.i64.wrap (H * 3600) = 3600 * H ∧ IntKind.i64.wrap (M * 60) = 60 * M ∧ IntKind.i64.wrap (3600 * H) = 3600 * H ∧ IntKind.i64.wrap (60 * M) = 60 * M ∧ IntKind.i64.wrap (3600 * H + 60 * M) = 3600 * H + 60 * M ∧ IntKind.i64.wrap (3600 * H + 60 * M + S) = secV H M S := by
  obtain ⟨a, b, c, e, f, g⟩ := k
  unfold secV
  exact ⟨by rw [IntWalk.i64_in _ (by omega)]; omega, by rw [IntWalk.i64_in _ (by omega)]; omega, IntWalk.i64_in _ (by omega), IntWalk.i64_in _ (by omega), IntWalk.i64_in _ (by omega), IntWalk.i64_in _ (by omega)⟩
theorem utai_nil (y m d H M S : Int) (w : World) :
    Calls Tryd.prog 12 #[.pointer none, .agg #[.int .i64 y, .int .i64 m, .int .i64 d, .int .i64 H, .int .i64 M, .int .i64 S]] w fun e w' => e = .returned (.tuple #[.int .i64 0, .int .i64 2]) ∧ Below w.heap.size w w' := by
  have HX := Lib.hid (Box.start w 35 #[.int .i64 y, .int .i64 m, .int .i64 d, .int .i64 H, .int .i64 M, .int .i64 S])
  go_enter Tryd.func12, Tryd.ntmps12
  go_wp2
  go_ret2
  exact ⟨rfl, HX.out.below⟩
set_option maxHeartbeats 2000000 in
theorem utai_any (q : Nat) (y m d H M S : Int) (w : World) (g : GTab st ah en L) (h : Rt w w.heap.size q ⟨st, ah, en, L⟩) :
    Calls Tryd.prog 12 #[.pointer (some ⟨q, 0, none⟩), .agg #[.int .i64 y, .int .i64 m, .int .i64 d, .int .i64 H, .int .i64 M, .int .i64 S]] w fun e w' => e = .returned (.tuple #[.int .i64 (taiR st ah en L y m d H M S).1, .int .i64 (taiR st ah en L y m d H M S).2]) ∧ Below w.heap.size w w' := by
  have HX := Lib.hid (Box.start w 35 #[.int .i64 y, .int .i64 m, .int .i64 d, .int .i64 H, .int .i64 M, .int .i64 S])
  obtain ⟨c0, c1, c2, c3, c4, c5, _⟩ := HX.out.cells6
  have HT := Lib.hid h
  have HG := Lib.hid g
  by_cases hc : CanD y m d ∧ CanT H M S
  case neg =>
    rw [taiR_arg hc]
    have HGN := Lib.hid (goodU_no hc)
    clear h g hc
    go_enter Tryd.func12, Tryd.ntmps12
    go_wp2_with (go_at_call 20; refine (ugood_any y m d H M S _).mono ?_; rintro e w1 ⟨rfl, hb1⟩; rw [HGN.out]; replace HX := Lib.hid (HX.out.next hb1); clear hb1)
    go_ret2
    exact ⟨rfl, HX.out.below⟩
  case pos =>
  have HGN := Lib.hid (goodU_yes hc.1 hc.2)
  have HN := Lib.hid (fun W => number_yes y m d W hc.1)
  obtain ⟨k1, k2, k3, k4, k5, k6⟩ := secs_of hc.2
  have sb := sec_bd' hc.2
  have nb := num_bd hc.1
  by_cases hr : numV y m d < st ∨ en ≤ numV y m d
  · rw [taiR_past hc hr]
    have HB := Lib.hid (fun W (hW : Box w 35 #[.int .i64 y, .int .i64 m, .int .i64 d, .int .i64 H, .int .i64 M, .int .i64 S] W) => ubegin_no W (some ⟨q, 0, none⟩) (numV y m d) (((HT.out.below hW.below).mono hW.below.size).src) hr)
    obtain ⟨D, hD⟩ : ∃ D, numV y m d = D := ⟨_, rfl⟩
    rw [hD] at HN HB
    clear h g hc hr hD nb sb k1 k2 k3 k4 k5 k6
    go_enter Tryd.func12, Tryd.ntmps12
    go_wp2_with (first
      | (go_at_call 20; refine (ugood_any y m d H M S _).mono ?_; rintro e w1 ⟨rfl, hb1⟩; rw [HGN.out]; replace HX := Lib.hid (HX.out.next hb1); clear hb1 c0 c1 c2 c3 c4 c5; obtain ⟨c0, c1, c2, c3, c4, c5, _⟩ := HX.out.cells6)
      | (go_at_call 31; refine (HN.out _).mono ?_; rintro e w2 ⟨rfl, hb2⟩; replace HX := Lib.hid (HX.out.next hb2); clear hb2 c0 c1 c2 c3 c4 c5)
      | (go_at_call 28; refine (HB.out _ HX.out).mono ?_; rintro e w3 ⟨rfl, hb3⟩; replace HX := Lib.hid (HX.out.next hb3); clear hb3))
    go_ret2
    exact ⟨rfl, HX.out.below⟩
  have hr2 : st ≤ numV y m d ∧ numV y m d < en := by omega
  have HB := Lib.hid (fun W (hW : Box w 35 #[.int .i64 y, .int .i64 m, .int .i64 d, .int .i64 H, .int .i64 M, .int .i64 S] W) => ubegin_yes W q (numV y m d) HG.out ((HT.out.below hW.below).mono hW.below.size) hr2.1 hr2.2)
  have HL := Lib.hid (fun W (hW : Box w 35 #[.int .i64 y, .int .i64 m, .int .i64 d, .int .i64 H, .int .i64 M, .int .i64 S] W) => ulong_any W (some ⟨q, 0, none⟩) (numV y m d) HG.out (((HT.out.below hW.below).mono hW.below.size).src))
  have bb := g.beg (numV y m d)
  have bl := g.len (numV y m d)
  have ty := taiR_yes (ah := ah) hc hr (L := L)
  have tn := taiR_none (ah := ah) hc hr (L := L)
  obtain ⟨D, hD⟩ : ∃ D, numV y m d = D := ⟨_, rfl⟩
  rw [hD] at HN HB HL bb bl nb ty tn
  obtain ⟨B, hB⟩ : ∃ B, beginV ah L D = B := ⟨_, rfl⟩
  obtain ⟨C, hC⟩ : ∃ C, lenV L D = C := ⟨_, rfl⟩
  obtain ⟨X, hX⟩ : ∃ C, secV H M S = C := ⟨_, rfl⟩
  rw [hB] at HB bb ty
  rw [hC] at HL bl ty tn
  rw [hX] at sb ty tn k6
  have e1 := IntWalk.i64_in (B + X) (by omega)
  clear h g hc hr hr2 hD hB hC hX nb
  by_cases hin : C ≤ X
  · rw [tn hin]
    have t1 : decide (C ≤ X) = true := decide_eq_true hin
    clear tn ty sb bl bb
    go_enter Tryd.func12, Tryd.ntmps12
    go_wp2_with (first
      | (go_at_call 20; refine (ugood_any y m d H M S _).mono ?_; rintro e w1 ⟨rfl, hb1⟩; rw [HGN.out]; replace HX := Lib.hid (HX.out.next hb1); clear hb1 c0 c1 c2 c3 c4 c5; obtain ⟨c0, c1, c2, c3, c4, c5, _⟩ := HX.out.cells6)
      | (go_at_call 31; refine (HN.out _).mono ?_; rintro e w2 ⟨rfl, hb2⟩; replace HX := Lib.hid (HX.out.next hb2); clear hb2 c0 c1 c2 c3 c4 c5)
      | (go_at_call 28; refine (HB.out _ HX.out).mono ?_; rintro e w3 ⟨rfl, hb3⟩; replace HX := Lib.hid (HX.out.next hb3); clear hb3; obtain ⟨c0, c1, c2, c3, c4, c5, _⟩ := HX.out.cells6)
      | (go_at_call 29; refine (HL.out _ HX.out).mono ?_; rintro e w4 ⟨rfl, hb4⟩; replace HX := Lib.hid (HX.out.next hb4); clear hb4))
    go_ret2
    exact ⟨rfl, HX.out.below⟩
  · rw [ty hin]
    have t1 : decide (C ≤ X) = false := decide_eq_false hin
    clear tn ty sb bl bb
    go_enter Tryd.func12, Tryd.ntmps12
    go_wp2_with (first
      | (go_at_call 20; refine (ugood_any y m d H M S _).mono ?_; rintro e w1 ⟨rfl, hb1⟩; rw [HGN.out]; replace HX := Lib.hid (HX.out.next hb1); clear hb1 c0 c1 c2 c3 c4 c5; obtain ⟨c0, c1, c2, c3, c4, c5, _⟩ := HX.out.cells6)
      | (go_at_call 31; refine (HN.out _).mono ?_; rintro e w2 ⟨rfl, hb2⟩; replace HX := Lib.hid (HX.out.next hb2); clear hb2 c0 c1 c2 c3 c4 c5)
      | (go_at_call 28; refine (HB.out _ HX.out).mono ?_; rintro e w3 ⟨rfl, hb3⟩; replace HX := Lib.hid (HX.out.next hb3); clear hb3; obtain ⟨c0, c1, c2, c3, c4, c5, _⟩ := HX.out.cells6)
      | (go_at_call 29; refine (HL.out _ HX.out).mono ?_; rintro e w4 ⟨rfl, hb4⟩; replace HX := Lib.hid (HX.out.next hb4); clear hb4))
    go_ret2
    exact ⟨rfl, HX.out.below⟩
end
/-- A table's own copy, boxed. -/
theorem Box.tab4 {w0 w : World} {t : TypeId} {a b c d : Value} (h : Box w0 t #[a, b, c, d] w) : w.cell? ⟨w0.heap.size, 0, none⟩ = some a ∧ w.cell? ⟨w0.heap.size, 1, none⟩ = some b ∧ w.cell? ⟨w0.heap.size, 2, none⟩ = some c ∧ w.cell? ⟨w0.heap.size, 3, none⟩ = some d :=
  ⟨h.holds.cell 0, h.holds.cell 1, h.holds.cell 2, h.holds.cell 3⟩
section
variable {st ah en : Int} {L : List (Int × Int)}
theorem rubegin_any (w : World) (A : Option Addr) (n c : Nat) (d : Int) (g : GTab st ah en L) (hr : PRow w A n c L) (hn : n ≤ 1000) (h1 : -3000000 ≤ d) (h2 : d ≤ 3000000) :
    Calls Tryd.prog 17 #[.agg #[.int .i64 st, .int .i64 ah, .int .i64 en, .slice A n c], .int .i64 d] w fun e w' => e = .returned (.int .i64 (beginV ah L d)) ∧ Below w.heap.size w w' := by
  have HX := Lib.hid (Box.start w 24 #[.int .i64 st, .int .i64 ah, .int .i64 en, .slice A n c])
  obtain ⟨c0, c1, c2, c3⟩ := HX.out.tab4
  have hah := IntWalk.i64_in ah (by have := g.fine.a1; have := g.fine.a2; omega)
  have HA := Lib.hid (fun W (hW : Below w.heap.size w W) => rlead_any W st ah en A n c L d (hr.below hW) hn hah)
  have bl := g.lead d
  unfold beginV
  obtain ⟨B, hB⟩ : ∃ B, aheadL ah L d = B := ⟨_, rfl⟩
  rw [hB] at HA bl ⊢
  rw [IntWalk.i64_in B (by omega)] at HA
  have e1 := IntWalk.i64_in (86400 * d) (by omega)
  have e2 := IntWalk.i64_in (86400 * d + B) (by omega)
  clear hB bl g hr hah hn
  go_enter Tryd.func17, Tryd.ntmps17
  go_wp2_with (go_at_call 34; refine (HA.out _ HX.out.below).mono ?_; rintro e w1 ⟨rfl, hb1⟩; replace HX := Lib.hid (HX.out.next hb1); clear hb1)
  go_ret
  exact ⟨rfl, HX.out.below⟩
theorem rdates : (Tryd.prog.info? 26).map (·.size) = some 3 := by kernel_rfl
theorem rudate_any {y m d : Int} (hc : CanD y m d) (D : Int) (hD : numV y m d = D) (w : World) :
    Calls Tryd.prog 32 #[.int .i64 D] w fun e w' => e = .returned (.agg #[.int .i64 y, .int .i64 m, .int .i64 d]) ∧ Below w.heap.size w w' := by
  have nb := num_bd hc
  have HD := Lib.hid (fun W => rdate_any (numV y m d) W nb.1 nb.2)
  rw [dateB_of hc] at HD
  have HP := Lib.hid (fun W => rparse_yes _ y m d W (text_is hc))
  subst hD
  have HR := Lib.hid (Box.start w 26 #[.int .i64 0, .int .i64 0, .int .i64 0])
  obtain ⟨N, hN⟩ : ∃ N, numV y m d = N := ⟨_, rfl⟩
  obtain ⟨T, hT⟩ : ∃ T, textB y m d = T := ⟨_, rfl⟩
  rw [hN, hT] at HD
  rw [hT] at HP
  rw [hN]
  clear hN hT hc nb
  go_enter Tryd.func32, Tryd.ntmps32
  go_wp2_with (first
    | (go_at_call 53; refine (HD.out _).mono ?_; rintro e w1 ⟨rfl, hb1⟩; replace HR := Lib.hid (HR.out.next hb1); clear hb1)
    | (go_at_call 43; refine (HP.out _).mono ?_; rintro e w2 ⟨rfl, hb2⟩; replace HR := Lib.hid (HR.out.next hb2); clear hb2; have HQ := Lib.hid (Box.start w2 26 #[.int .i64 y, .int .i64 m, .int .i64 d]); obtain ⟨c0, c1, c2, _⟩ := HQ.out.cells3; replace HR := Lib.hid (HR.out.next HQ.out.below); have r0 := HR.out.holds.cell 0; have r1 := HR.out.holds.cell 1; have r2 := HR.out.holds.cell 2; have g0 := HR.out.holds.soft 0; have g1 := HR.out.holds.soft 1; have g2 := HR.out.holds.soft 2))
  refine bodyPost_ret (results_cell_row rfl _ _ w.heap.size 26 #[.int .i64 y, .int .i64 m, .int .i64 d] (0, 0) _ rfl (((HR.out.put 0 _).put 1 _).put 2 _).holds Tryd.underlying26 rfl rdates) rfl ?_
  exact ⟨rfl, (((HR.out.put 0 _).put 1 _).put 2 _).below⟩
set_option maxHeartbeats 4000000 in
theorem rutai_any (A : Option Addr) (n c : Nat) (y m d H M S : Int) (w : World) (g : GTab st ah en L) (hr : PRow w A n c L) (hn : n ≤ 1000) :
    Calls Tryd.prog 16 #[.agg #[.int .i64 st, .int .i64 ah, .int .i64 en, .slice A n c], .agg #[.int .i64 y, .int .i64 m, .int .i64 d, .int .i64 H, .int .i64 M, .int .i64 S]] w fun e w' => e = .returned (.tuple #[.int .i64 (taiR st ah en L y m d H M S).1, .int .i64 (taiR st ah en L y m d H M S).2]) ∧ Below w.heap.size w w' := by
  have HX := Lib.hid (Box.start w 24 #[.int .i64 st, .int .i64 ah, .int .i64 en, .slice A n c])
  have hs0 := size_alloc w (.cells #[.int .i64 st, .int .i64 ah, .int .i64 en, .slice A n c] 24)
  have hy := Box.start (w.alloc (.cells #[.int .i64 st, .int .i64 ah, .int .i64 en, .slice A n c] 24)) 28 #[.int .i64 y, .int .i64 m, .int .i64 d, .int .i64 H, .int .i64 M, .int .i64 S]
  replace HX := Lib.hid (HX.out.next hy.below)
  have HY := Lib.hid (show Holds _ (w.heap.size + 1) 28 #[.int .i64 y, .int .i64 m, .int .i64 d, .int .i64 H, .int .i64 M, .int .i64 S] by have := hy.holds; rwa [hs0] at this)
  have HR := Lib.hid hr
  clear hs0 hy
  by_cases hc : CanD y m d ∧ CanT H M S
  case neg =>
    rw [taiR_arg hc]
    have HGN := Lib.hid (goodU_no hc)
    clear g hc hr hn
    go_enter Tryd.func16, Tryd.ntmps16
    go_upto_region 1 with (fail)
    obtain ⟨W0, hW0⟩ : ∃ W0, W0 = (w.alloc (.cells #[.int .i64 st, .int .i64 ah, .int .i64 en, .slice A n c] 24)).alloc (.cells #[.int .i64 y, .int .i64 m, .int .i64 d, .int .i64 H, .int .i64 M, .int .i64 S] 28) := ⟨_, rfl⟩
    rw [← hW0] at HX HY ⊢
    clear hW0
    obtain ⟨c0, c1, c2, c3⟩ := HX.out.tab4
    have u0 := HY.out.cell 0
    have u1 := HY.out.cell 1
    have u2 := HY.out.cell 2
    have u3 := HY.out.cell 3
    have u4 := HY.out.cell 4
    have u5 := HY.out.cell 5
    go_wp2_with (go_at_call 21; refine (rugood_any y m d H M S _).mono ?_; rintro e w1 ⟨rfl, hb1⟩; rw [HGN.out]; replace HX := Lib.hid (HX.out.next hb1); replace HY := Lib.hid (HY.out.below hb1 HY.out.lt); clear hb1 c0 c1 c2 c3 u0 u1 u2 u3 u4 u5; obtain ⟨c0, c1, c2, c3⟩ := HX.out.tab4; have u0 := HY.out.cell 0; have u1 := HY.out.cell 1; have u2 := HY.out.cell 2; have u3 := HY.out.cell 3; have u4 := HY.out.cell 4; have u5 := HY.out.cell 5)
    go_ret2
    exact ⟨rfl, HX.out.below⟩
  case pos =>
  have HGN := Lib.hid (goodU_yes hc.1 hc.2)
  have HN := Lib.hid (fun W => rnumber_any y m d W hc.1)
  obtain ⟨-, -, k3, k4, k5, k6⟩ := secs_of hc.2
  have sb := sec_bd' hc.2
  have nb := num_bd hc.1
  by_cases hp : numV y m d < st ∨ en ≤ numV y m d
  · rw [taiR_past hc hp]
    obtain ⟨D, hD⟩ : ∃ D, numV y m d = D := ⟨_, rfl⟩
    rw [hD] at HN hp
    clear g hc hr hn hD nb sb k3 k4 k5 k6
    by_cases hp1 : D < st
    · have t1 : decide (D < st) = true := decide_eq_true hp1
      go_enter Tryd.func16, Tryd.ntmps16
      go_upto_region 1 with (fail)
      obtain ⟨W0, hW0⟩ : ∃ W0, W0 = (w.alloc (.cells #[.int .i64 st, .int .i64 ah, .int .i64 en, .slice A n c] 24)).alloc (.cells #[.int .i64 y, .int .i64 m, .int .i64 d, .int .i64 H, .int .i64 M, .int .i64 S] 28) := ⟨_, rfl⟩
      rw [← hW0] at HX HY ⊢
      clear hW0
      obtain ⟨c0, c1, c2, c3⟩ := HX.out.tab4
      have u0 := HY.out.cell 0
      have u1 := HY.out.cell 1
      have u2 := HY.out.cell 2
      have u3 := HY.out.cell 3
      have u4 := HY.out.cell 4
      have u5 := HY.out.cell 5
      go_wp2_with (first
        | (go_at_call 21; refine (rugood_any y m d H M S _).mono ?_; rintro e w1 ⟨rfl, hb1⟩; rw [HGN.out]; replace HX := Lib.hid (HX.out.next hb1); replace HY := Lib.hid (HY.out.below hb1 HY.out.lt); clear hb1 c0 c1 c2 c3 u0 u1 u2 u3 u4 u5; obtain ⟨c0, c1, c2, c3⟩ := HX.out.tab4; have u0 := HY.out.cell 0; have u1 := HY.out.cell 1; have u2 := HY.out.cell 2; have u3 := HY.out.cell 3; have u4 := HY.out.cell 4; have u5 := HY.out.cell 5)
        | (go_at_call 33; refine (HN.out _).mono ?_; rintro e w2 ⟨rfl, hb2⟩; replace HX := Lib.hid (HX.out.next hb2); replace HY := Lib.hid (HY.out.below hb2 HY.out.lt); clear hb2 c0 c1 c2 c3 u0 u1 u2 u3 u4 u5; obtain ⟨c0, c1, c2, c3⟩ := HX.out.tab4; have u0 := HY.out.cell 0; have u1 := HY.out.cell 1; have u2 := HY.out.cell 2; have u3 := HY.out.cell 3; have u4 := HY.out.cell 4; have u5 := HY.out.cell 5))
      go_ret2
      exact ⟨rfl, HX.out.below⟩
    · have t1 : decide (D < st) = false := decide_eq_false hp1
      have t2 : decide (en ≤ D) = true := decide_eq_true (by omega)
      go_enter Tryd.func16, Tryd.ntmps16
      go_upto_region 1 with (fail)
      obtain ⟨W0, hW0⟩ : ∃ W0, W0 = (w.alloc (.cells #[.int .i64 st, .int .i64 ah, .int .i64 en, .slice A n c] 24)).alloc (.cells #[.int .i64 y, .int .i64 m, .int .i64 d, .int .i64 H, .int .i64 M, .int .i64 S] 28) := ⟨_, rfl⟩
      rw [← hW0] at HX HY ⊢
      clear hW0
      obtain ⟨c0, c1, c2, c3⟩ := HX.out.tab4
      have u0 := HY.out.cell 0
      have u1 := HY.out.cell 1
      have u2 := HY.out.cell 2
      have u3 := HY.out.cell 3
      have u4 := HY.out.cell 4
      have u5 := HY.out.cell 5
      go_wp2_with (first
        | (go_at_call 21; refine (rugood_any y m d H M S _).mono ?_; rintro e w1 ⟨rfl, hb1⟩; rw [HGN.out]; replace HX := Lib.hid (HX.out.next hb1); replace HY := Lib.hid (HY.out.below hb1 HY.out.lt); clear hb1 c0 c1 c2 c3 u0 u1 u2 u3 u4 u5; obtain ⟨c0, c1, c2, c3⟩ := HX.out.tab4; have u0 := HY.out.cell 0; have u1 := HY.out.cell 1; have u2 := HY.out.cell 2; have u3 := HY.out.cell 3; have u4 := HY.out.cell 4; have u5 := HY.out.cell 5)
        | (go_at_call 33; refine (HN.out _).mono ?_; rintro e w2 ⟨rfl, hb2⟩; replace HX := Lib.hid (HX.out.next hb2); replace HY := Lib.hid (HY.out.below hb2 HY.out.lt); clear hb2 c0 c1 c2 c3 u0 u1 u2 u3 u4 u5; obtain ⟨c0, c1, c2, c3⟩ := HX.out.tab4; have u0 := HY.out.cell 0; have u1 := HY.out.cell 1; have u2 := HY.out.cell 2; have u3 := HY.out.cell 3; have u4 := HY.out.cell 4; have u5 := HY.out.cell 5))
      go_ret2
      exact ⟨rfl, HX.out.below⟩
  have hp1 : decide (numV y m d < st) = false := decide_eq_false (by omega)
  have hp2 : decide (en ≤ numV y m d) = false := decide_eq_false (by omega)
  have HB := Lib.hid (fun W (hW : Below w.heap.size w W) => rubegin_any W A n c (numV y m d) g (HR.out.below hW) hn (by omega) (by omega))
  have HL := Lib.hid (fun W (hW : Below w.heap.size w W) => rstep_any W st ah en A n c L (numV y m d) (HR.out.below hW) hn)
  have bb := g.beg (numV y m d)
  have bl := g.len (numV y m d)
  have ty := taiR_yes (ah := ah) hc hp (L := L)
  have tn := taiR_none (ah := ah) hc hp (L := L)
  unfold lenV at bl ty tn
  obtain ⟨D, hD⟩ : ∃ D, numV y m d = D := ⟨_, rfl⟩
  rw [hD] at HN HB HL bb bl nb ty tn hp1 hp2
  obtain ⟨B, hB⟩ : ∃ B, beginV ah L D = B := ⟨_, rfl⟩
  obtain ⟨C, hC⟩ : ∃ C, stepL L D = C := ⟨_, rfl⟩
  obtain ⟨X, hX⟩ : ∃ C, secV H M S = C := ⟨_, rfl⟩
  rw [hB] at HB bb ty
  rw [hC] at HL bl ty tn
  rw [hX] at sb ty tn k6
  have e1 := IntWalk.i64_in (B + X) (by omega)
  have e2 := IntWalk.i64_in (86400 + C) (by omega)
  clear g hc hp hr hn hD hB hC hX nb
  by_cases hin : 86400 + C ≤ X
  · rw [tn hin]
    have t1 : decide (86400 + C ≤ X) = true := decide_eq_true hin
    clear tn ty sb bl bb
    go_enter Tryd.func16, Tryd.ntmps16
    go_upto_region 1 with (fail)
    obtain ⟨W0, hW0⟩ : ∃ W0, W0 = (w.alloc (.cells #[.int .i64 st, .int .i64 ah, .int .i64 en, .slice A n c] 24)).alloc (.cells #[.int .i64 y, .int .i64 m, .int .i64 d, .int .i64 H, .int .i64 M, .int .i64 S] 28) := ⟨_, rfl⟩
    rw [← hW0] at HX HY ⊢
    clear hW0
    obtain ⟨c0, c1, c2, c3⟩ := HX.out.tab4
    have u0 := HY.out.cell 0
    have u1 := HY.out.cell 1
    have u2 := HY.out.cell 2
    have u3 := HY.out.cell 3
    have u4 := HY.out.cell 4
    have u5 := HY.out.cell 5
    go_wp2_with (first
      | (go_at_call 21; refine (rugood_any y m d H M S _).mono ?_; rintro e w1 ⟨rfl, hb1⟩; rw [HGN.out]; replace HX := Lib.hid (HX.out.next hb1); replace HY := Lib.hid (HY.out.below hb1 HY.out.lt); clear hb1 c0 c1 c2 c3 u0 u1 u2 u3 u4 u5; obtain ⟨c0, c1, c2, c3⟩ := HX.out.tab4; have u0 := HY.out.cell 0; have u1 := HY.out.cell 1; have u2 := HY.out.cell 2; have u3 := HY.out.cell 3; have u4 := HY.out.cell 4; have u5 := HY.out.cell 5)
      | (go_at_call 33; refine (HN.out _).mono ?_; rintro e w2 ⟨rfl, hb2⟩; replace HX := Lib.hid (HX.out.next hb2); replace HY := Lib.hid (HY.out.below hb2 HY.out.lt); clear hb2 c0 c1 c2 c3 u0 u1 u2 u3 u4 u5; obtain ⟨c0, c1, c2, c3⟩ := HX.out.tab4; have u0 := HY.out.cell 0; have u1 := HY.out.cell 1; have u2 := HY.out.cell 2; have u3 := HY.out.cell 3; have u4 := HY.out.cell 4; have u5 := HY.out.cell 5)
      | (go_at_call 18; refine (HL.out _ HX.out.below).mono ?_; rintro e w3 ⟨rfl, hb3⟩; replace HX := Lib.hid (HX.out.next hb3); replace HY := Lib.hid (HY.out.below hb3 HY.out.lt); clear hb3 c0 c1 c2 c3 u0 u1 u2 u3 u4 u5; obtain ⟨c0, c1, c2, c3⟩ := HX.out.tab4; have u0 := HY.out.cell 0; have u1 := HY.out.cell 1; have u2 := HY.out.cell 2; have u3 := HY.out.cell 3; have u4 := HY.out.cell 4; have u5 := HY.out.cell 5))
    go_ret2
    exact ⟨rfl, HX.out.below⟩
  · rw [ty hin]
    have t1 : decide (86400 + C ≤ X) = false := decide_eq_false hin
    clear tn ty sb bl bb
    go_enter Tryd.func16, Tryd.ntmps16
    go_upto_region 1 with (fail)
    obtain ⟨W0, hW0⟩ : ∃ W0, W0 = (w.alloc (.cells #[.int .i64 st, .int .i64 ah, .int .i64 en, .slice A n c] 24)).alloc (.cells #[.int .i64 y, .int .i64 m, .int .i64 d, .int .i64 H, .int .i64 M, .int .i64 S] 28) := ⟨_, rfl⟩
    rw [← hW0] at HX HY ⊢
    clear hW0
    obtain ⟨c0, c1, c2, c3⟩ := HX.out.tab4
    have u0 := HY.out.cell 0
    have u1 := HY.out.cell 1
    have u2 := HY.out.cell 2
    have u3 := HY.out.cell 3
    have u4 := HY.out.cell 4
    have u5 := HY.out.cell 5
    go_wp2_with (first
      | (go_at_call 21; refine (rugood_any y m d H M S _).mono ?_; rintro e w1 ⟨rfl, hb1⟩; rw [HGN.out]; replace HX := Lib.hid (HX.out.next hb1); replace HY := Lib.hid (HY.out.below hb1 HY.out.lt); clear hb1 c0 c1 c2 c3 u0 u1 u2 u3 u4 u5; obtain ⟨c0, c1, c2, c3⟩ := HX.out.tab4; have u0 := HY.out.cell 0; have u1 := HY.out.cell 1; have u2 := HY.out.cell 2; have u3 := HY.out.cell 3; have u4 := HY.out.cell 4; have u5 := HY.out.cell 5)
      | (go_at_call 33; refine (HN.out _).mono ?_; rintro e w2 ⟨rfl, hb2⟩; replace HX := Lib.hid (HX.out.next hb2); replace HY := Lib.hid (HY.out.below hb2 HY.out.lt); clear hb2 c0 c1 c2 c3 u0 u1 u2 u3 u4 u5; obtain ⟨c0, c1, c2, c3⟩ := HX.out.tab4; have u0 := HY.out.cell 0; have u1 := HY.out.cell 1; have u2 := HY.out.cell 2; have u3 := HY.out.cell 3; have u4 := HY.out.cell 4; have u5 := HY.out.cell 5)
      | (go_at_call 18; refine (HL.out _ HX.out.below).mono ?_; rintro e w3 ⟨rfl, hb3⟩; replace HX := Lib.hid (HX.out.next hb3); replace HY := Lib.hid (HY.out.below hb3 HY.out.lt); clear hb3 c0 c1 c2 c3 u0 u1 u2 u3 u4 u5; obtain ⟨c0, c1, c2, c3⟩ := HX.out.tab4; have u0 := HY.out.cell 0; have u1 := HY.out.cell 1; have u2 := HY.out.cell 2; have u3 := HY.out.cell 3; have u4 := HY.out.cell 4; have u5 := HY.out.cell 5)
      | (go_at_call 17; refine (HB.out _ HX.out.below).mono ?_; rintro e w4 ⟨rfl, hb4⟩; replace HX := Lib.hid (HX.out.next hb4); replace HY := Lib.hid (HY.out.below hb4 HY.out.lt); clear hb4 c0 c1 c2 c3 u0 u1 u2 u3 u4 u5; obtain ⟨c0, c1, c2, c3⟩ := HX.out.tab4; have u0 := HY.out.cell 0; have u1 := HY.out.cell 1; have u2 := HY.out.cell 2; have u3 := HY.out.cell 3; have u4 := HY.out.cell 4; have u5 := HY.out.cell 5))
    go_ret2
    exact ⟨rfl, HX.out.below⟩
end
end Go.Proofs.YtcknllkbeadmlaaDoor

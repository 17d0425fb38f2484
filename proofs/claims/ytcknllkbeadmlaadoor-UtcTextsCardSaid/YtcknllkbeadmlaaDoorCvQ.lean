/- Package civil: what Parse answers, of any text. -/
import Derived.Test.YtcknllkbeadmlaaDoorCvP
namespace Go.Proofs.YtcknllkbeadmlaaDoor
open Go.RowKit
set_option linter.unusedSimpArgs false
set_option linter.unusedVariables false

/-- What the reading of a text answers. -/
def ReadDate (s : ByteArray) (e : Ending) : Prop := (∃ y m d, IsDate s y m d ∧ GaveDate y m d true e) ∨ ((¬ ∃ y m d, IsDate s y m d) ∧ GaveDate 0 0 0 false e)
theorem not_conf {s : ByteArray} {j : Nat} (hj : j < 10) (h : ¬ confB s j) : ¬ ∃ y m d, IsDate s y m d := fun ⟨_, _, _, k⟩ => h (k.conf j hj)
theorem end_none {w W : World} {s : ByteArray} {e : Ending} (h : ¬ ∃ y m d, IsDate s y m d) (he : GaveDate 0 0 0 false e) (hb : Below w.heap.size w W) : ReadDate s e ∧ Below w.heap.size w W := ⟨.inr ⟨h, he⟩, hb⟩
theorem parse_len (s : ByteArray) (w : World) (h : ¬ s.size = 10) (hs : s.size ≤ maxLen) :
    Calls Tryd.prog 41 #[.string s] w fun e w' => ReadDate s e ∧ Below w.heap.size w w' := by
  have hb := Holds.new w 33 #[.int .i64 0, .int .i64 0, .int .i64 0]
  have HH := Lib.hid hb
  have HB := Lib.hid (below_alloc w (.cells #[.int .i64 0, .int .i64 0, .int .i64 0] 33))
  have c0 := hb.cell 0
  have c1 := hb.cell 1
  have c2 := hb.cell 2
  have f0 := hb.soft 0
  have f1 := hb.soft 1
  have f2 := hb.soft 2
  clear hb
  have hne : ¬ (s.size : Int) = 10 := by omega
  have HN : Hid (¬ ∃ y m d, IsDate s y m d) := Lib.hid (fun ⟨_, _, _, k⟩ => h k.ten)
  clear h
  go_enter Tryd.func41, Tryd.ntmps41
  go_wp2
  refine bodyPost_ret (results_row_tmp rfl _ _ w.heap.size 33 [.int .i64 0, .int .i64 0, .int .i64 0] _ _ rfl HH.out Tryd.underlying33 rfl date_size rfl) rfl ?_
  exact end_none HN.out rfl HB.out
set_option maxHeartbeats 1000000 in
theorem parse_ten (s : ByteArray) (w : World) (h : s.size = 10) :
    Calls Tryd.prog 41 #[.string s] w fun e w' => ReadDate s e ∧ Below w.heap.size w w' := by
  have HS := Lib.hid (PRun.start w s)
  have HH := Lib.hid h
  have h10 : (s.size : Int) = 10 := by omega
  clear h
  go_enter Tryd.func41, Tryd.ntmps41
  go_wp2
  clear h10
  go_loopw [5] (fun t wr => ∃ p : Nat, p ≤ 10 ∧ (∀ j, j < p → confB s j) ∧ t = .int .i64 (atP p : Nat) ∧ PRun w s p wr) (fun _ wr => 10 - wr.iterPos (w.heap.size + 2))
  case atStart => exact ⟨0, Nat.zero_le _, fun j hj => absurd hj (Nat.not_lt_zero _), rfl, HS.out⟩
  case round =>
    clear HS
    obtain ⟨p, hp, hcf, rfl, hr⟩ := hrel
    have HC := Lib.hid hcf
    have HR := Lib.hid hr
    clear hcf
    by_cases hlt : p < 10
    · have hps : p < s.size := by rw [HH.out]; exact hlt
      have hnx : ∀ ty, (Instr.next (.pointer (some ⟨w.heap.size + 2, 0, none⟩)) true ty).run Tryd.prog wr = _ := fun ty => Lib.run_next_any_at wr (w.heap.size + 2) s p ty hr.iter hps
      obtain ⟨hrc, hwd, hr1⟩ := rune_conf hps
      have HMV := Lib.hid (hr.moved (p + (Utf8.decode s p).2))
      have HM0 := Lib.hid (show wr.iterPos (w.heap.size + 2) = p by simp [World.iterPos, hr.iter])
      clear hr
      obtain ⟨r, hre⟩ : ∃ r, (Utf8.decode s p).1 = r := ⟨_, rfl⟩
      obtain ⟨q, hqe⟩ : ∃ q, (Utf8.decode s p).2 = q := ⟨_, rfl⟩
      rw [hre] at hrc hr1 hwd
      rw [hqe] at hwd
      simp only [hre, hqe] at hnx HMV
      clear hre hqe
      obtain ⟨V, hV⟩ : ∃ V, wr.iterAt (w.heap.size + 2) s (p + q) = V := ⟨_, rfl⟩
      simp only [hV] at hnx HMV
      have HV := Lib.hid hV
      clear hV
      have hrr : IntKind.i32.wrap (r : Int) = r := IntWalk.i32_in _ (by omega)
      by_cases hc : confR p (r : Int)
      · obtain ⟨hq1, hrb⟩ := hwd (hrc.2 hc)
        have HCN := Lib.hid (show ∀ j, j < p + 1 → confB s j from fun j hj => if e : j = p then e ▸ hrc.2 hc else HC.out j (by omega))
        subst hq1
        clear hwd hrc HC
        by_cases h47 : p = 4 ∨ p = 7
        · have hr45 : r = 45 := by unfold confR at hc; rw [if_pos h47] at hc; omega
          subst hr45
          have HN := Lib.hid (nP_same (s := s) h47)
          have hat : atP (p + 1) = atP p + 1 := by rcases h47 with rfl | rfl <;> rfl
          have HAT := Lib.hid hat
          have hap : atP p ≤ 1 := by rcases h47 with rfl | rfl <;> decide
          have e0 := IntWalk.i64_in ((atP p : Nat) + 1 : Int) (by omega)
          clear hat hc
          have HD := Lib.hid (show PRun w s (p + 1) V from ⟨HMV.out.1, by rw [HN.out]; exact HMV.out.2.1, HMV.out.2.2.1, HMV.out.2.2.2⟩)
          obtain ⟨A, hA⟩ : ∃ A, atP p = A := ⟨_, rfl⟩
          rw [hA] at e0 HAT
          simp only [hA]
          clear hA
          rcases h47 with rfl | rfl
          all_goals
            go_wp2
            go_roundw
            case rel => exact ⟨_, by omega, HCN.out, by rw [HAT.out]; go_num, HD.out⟩
            case measure => rw [HM0.out]; have := HD.out.iter; simp only [World.iterPos, this] <;> omega
        · have hr48 : 48 ≤ (r : Int) ∧ (r : Int) ≤ 57 := by unfold confR at hc; rw [if_neg h47] at hc; exact hc
          have d4 : ¬ p = 4 := fun e => h47 (.inl e)
          have d7 : ¬ p = 7 := fun e => h47 (.inr e)
          have i4 : ¬ (p : Int) = 4 := by omega
          have i7 : ¬ (p : Int) = 7 := by omega
          have j4 := beq_no i4
          have j7 := beq_no i7
          have b1 : decide ((r : Int) < 48) = false := decide_eq_false (by omega)
          have b2 : decide (57 < (r : Int)) = false := decide_eq_false (by omega)
          have e0 := IntWalk.i32_in ((r : Int) - 48) (by omega)
          have e1 := IntWalk.i64_in ((r : Int) - 48) (by omega)
          have hN := nP_next (s := s) d4 d7 hlt
          rw [← hrb] at hN
          have nb := nP_bd s hp
          obtain ⟨V0, V1, V2, V3⟩ := HMV.out
          have hat : atP (p + 1) = atP p := by
            have h : p = 0 ∨ p = 1 ∨ p = 2 ∨ p = 3 ∨ p = 5 ∨ p = 6 ∨ p = 8 ∨ p = 9 := by omega
            rcases h with rfl | rfl | rfl | rfl | rfl | rfl | rfl | rfl <;> rfl
          have HAT := Lib.hid hat
          have hset := fun (k : Nat) (v : Int) (e : nP s (p + 1) = ((if k = 0 then v else (nP s p).1), (if k = 1 then v else (nP s p).2.1), (if k = 2 then v else (nP s p).2.2))) (hk : k ≤ 2) => prun_set (s := s) (p := p + 1) V0 V1 V2 V3 k v e hk
          have HSET := Lib.hid hset
          have c0 := V1.cell 0
          have c1 := V1.cell 1
          have c2 := V1.cell 2
          have f0 := V1.soft 0
          have f1 := V1.soft 1
          have f2 := V1.soft 2
          clear hset hat hc V0 V1 V2 V3 HMV hrb
          obtain ⟨n0, hn0⟩ : ∃ n, (nP s p).1 = n := ⟨_, rfl⟩
          obtain ⟨n1, hn1⟩ : ∃ n, (nP s p).2.1 = n := ⟨_, rfl⟩
          obtain ⟨n2, hn2⟩ : ∃ n, (nP s p).2.2 = n := ⟨_, rfl⟩
          rw [hn0, hn1, hn2] at nb hN
          simp only [hn0, hn1, hn2] at HSET c0 c1 c2
          clear hn0 hn1 hn2
          have ha3 : atP p = 0 ∨ atP p = 1 ∨ atP p = 2 := by unfold atP; split; exact .inl rfl; split; exact .inr (.inl rfl); exact .inr (.inr rfl)
          rcases ha3 with ha | ha | ha
          all_goals
            rw [ha] at hN HAT
            have HN := Lib.hid hN
            clear hN
            simp only [ha]
          · have g1 := IntWalk.i64_in (n0 * 10) (by omega)
            have g2 := IntWalk.i64_in (n0 * 10 + ((r : Int) - 48)) (by omega)
            have HD := Lib.hid (HSET.out 0 (n0 * 10 + ((r : Int) - 48)) HN.out (by decide))
            clear HSET HN ha
            go_wp2
            go_roundw
            case rel => exact ⟨p + 1, by omega, HCN.out, by rw [HAT.out], HD.out⟩
            case measure => rw [HM0.out]; have := HD.out.iter; simp only [World.iterPos, this] <;> omega
          · have g1 := IntWalk.i64_in (n1 * 10) (by omega)
            have g2 := IntWalk.i64_in (n1 * 10 + ((r : Int) - 48)) (by omega)
            have HD := Lib.hid (HSET.out 1 (n1 * 10 + ((r : Int) - 48)) HN.out (by decide))
            clear HSET HN ha
            go_wp2
            go_roundw
            case rel => exact ⟨p + 1, by omega, HCN.out, by rw [HAT.out], HD.out⟩
            case measure => rw [HM0.out]; have := HD.out.iter; simp only [World.iterPos, this] <;> omega
          · have g1 := IntWalk.i64_in (n2 * 10) (by omega)
            have g2 := IntWalk.i64_in (n2 * 10 + ((r : Int) - 48)) (by omega)
            have HD := Lib.hid (HSET.out 2 (n2 * 10 + ((r : Int) - 48)) HN.out (by decide))
            clear HSET HN ha
            go_wp2
            go_roundw
            case rel => exact ⟨p + 1, by omega, HCN.out, by rw [HAT.out], HD.out⟩
            case measure => rw [HM0.out]; have := HD.out.iter; simp only [World.iterPos, this] <;> omega
      · have HNC := Lib.hid (not_conf hlt (fun k => hc (hrc.1 k)))
        clear hwd hrc HC
        obtain ⟨V0, V1, V2, V3⟩ := HMV.out
        have c0 := V0.cell 0
        have c1 := V0.cell 1
        have c2 := V0.cell 2
        have f0 := V0.soft 0
        have f1 := V0.soft 1
        have f2 := V0.soft 2
        clear V0 V1 V2 V3
        by_cases h47 : p = 4 ∨ p = 7
        · have hr45 : ¬ (r : Int) = 45 := by unfold confR at hc; rw [if_pos h47] at hc; exact hc
          clear hc
          rcases h47 with rfl | rfl
          all_goals
            go_wp2
            refine bodyPost_ret (results_row_tmp rfl _ _ w.heap.size 33 [.int .i64 0, .int .i64 0, .int .i64 0] _ _ rfl (((HMV.out.1.put 0 _).put 1 _).put 2 _) Tryd.underlying33 rfl date_size rfl) rfl ?_
            exact end_none HNC.out rfl (((HMV.out.2.2.2.setCell (Nat.le_refl _) _).setCell (Nat.le_refl _) _).setCell (Nat.le_refl _) _)
        · have i4 : ¬ (p : Int) = 4 := by omega
          have i7 : ¬ (p : Int) = 7 := by omega
          have j4 := beq_no i4
          have j7 := beq_no i7
          have hrn : (r : Int) < 48 ∨ (¬ (r : Int) < 48 ∧ 57 < (r : Int)) := by unfold confR at hc; rw [if_neg h47] at hc; omega
          clear hc
          rcases hrn with hl | ⟨hl, hg⟩
          all_goals
            try have b1 : decide ((r : Int) < 48) = false := decide_eq_false hl
            go_wp2
            refine bodyPost_ret (results_row_tmp rfl _ _ w.heap.size 33 [.int .i64 0, .int .i64 0, .int .i64 0] _ _ rfl (((HMV.out.1.put 0 _).put 1 _).put 2 _) Tryd.underlying33 rfl date_size rfl) rfl ?_
            exact end_none HNC.out rfl (((HMV.out.2.2.2.setCell (Nat.le_refl _) _).setCell (Nat.le_refl _) _).setCell (Nat.le_refl _) _)
    · have hpe : p = 10 := by omega
      subst hpe
      have hnp : ¬ 10 < s.size := by rw [HH.out]; omega
      have hnx : ∀ ty, (Instr.next (.pointer (some ⟨w.heap.size + 2, 0, none⟩)) true ty).run Tryd.prog wr = _ := fun ty => Lib.run_next_end_at wr (w.heap.size + 2) s 10 ty hr.iter hnp
      have HNP := Lib.hid (nP_bd s (p := 10) (by omega))
      obtain ⟨n0, hn0⟩ : ∃ n, (nP s 10).1 = n := ⟨_, rfl⟩
      obtain ⟨n1, hn1⟩ : ∃ n, (nP s 10).2.1 = n := ⟨_, rfl⟩
      obtain ⟨n2, hn2⟩ : ∃ n, (nP s 10).2.2 = n := ⟨_, rfl⟩
      have H0 := Lib.hid (show numS s 0 4 = n0 from hn0)
      have H1 := Lib.hid (show numS s 5 2 = n1 from hn1)
      have H2 := Lib.hid (show numS s 8 2 = n2 from hn2)
      obtain ⟨q0, q1, q2, q3⟩ := hr
      rw [hn0, hn1, hn2] at q1
      have Q0 := Lib.hid q0
      have Q3 := Lib.hid q3
      have c0 := q1.cell 0
      have c1 := q1.cell 1
      have c2 := q1.cell 2
      have hal := Box.start wr 33 #[.int .i64 n0, .int .i64 n1, .int .i64 n2]
      obtain ⟨d0, d1, d2, _⟩ := hal.cells3
      have HA := Lib.hid hal
      clear q0 q1 q2 q3 hn0 hn1 hn2 hal
      by_cases hc : CanD n0 n1 n2
      · go_wp2_with (go_at_call 37; refine (good_any n0 n1 n2 _).mono ?_; rintro e w1 ⟨rfl, hb1⟩; rw [goodD_yes hc]; have HB1 := Lib.hid (HA.out.next hb1); clear d0 d1 d2; obtain ⟨d0, d1, d2, _⟩ := HB1.out.cells3; have hr1 := (Q0.out.below HB1.out.below Q0.out.lt); have HR1 := Lib.hid hr1; have r0 := hr1.cell 0; have r1 := hr1.cell 1; have r2 := hr1.cell 2; have g0 := hr1.soft 0; have g1 := hr1.soft 1; have g2 := hr1.soft 2; clear hr1)
        refine bodyPost_ret (results_row_tmp rfl _ _ w.heap.size 33 [.int .i64 n0, .int .i64 n1, .int .i64 n2] _ _ rfl (((HR1.out.put 0 _).put 1 _).put 2 _) Tryd.underlying33 rfl date_size rfl) rfl ?_
        refine ⟨.inl ⟨n0, n1, n2, ⟨HH.out, HC.out, H0.out.symm, H1.out.symm, H2.out.symm, hc⟩, rfl⟩, ?_⟩
        exact (((Q3.out.trans (HB1.out.below.mono Q3.out.size)).setCell (Nat.le_refl _) _).setCell (Nat.le_refl _) _).setCell (Nat.le_refl _) _
      · go_wp2_with (go_at_call 37; refine (good_any n0 n1 n2 _).mono ?_; rintro e w1 ⟨rfl, hb1⟩; rw [goodD_no hc]; have HB1 := Lib.hid (HA.out.next hb1); clear d0 d1 d2; have hr1 := (Q0.out.below HB1.out.below Q0.out.lt); have HR1 := Lib.hid hr1; have r0 := hr1.cell 0; have r1 := hr1.cell 1; have r2 := hr1.cell 2; have g0 := hr1.soft 0; have g1 := hr1.soft 1; have g2 := hr1.soft 2; clear hr1)
        refine bodyPost_ret (results_row_tmp rfl _ _ w.heap.size 33 [.int .i64 0, .int .i64 0, .int .i64 0] _ _ rfl (((HR1.out.put 0 _).put 1 _).put 2 _) Tryd.underlying33 rfl date_size rfl) rfl ?_
        refine end_none (fun ⟨y, m, d, k⟩ => hc ?_) rfl ?_
        · have k1 := k.can
          rw [k.y_eq, k.m_eq, k.d_eq, H0.out, H1.out, H2.out] at k1
          exact k1
        · exact (((Q3.out.trans (HB1.out.below.mono Q3.out.size)).setCell (Nat.le_refl _) _).setCell (Nat.le_refl _) _).setCell (Nat.le_refl _) _
theorem isDate_one {s : ByteArray} {y m d y' m' d' : Int} (h : IsDate s y m d) (k : IsDate s y' m' d') : y = y' ∧ m = m' ∧ d = d' := ⟨h.y_eq.trans k.y_eq.symm, h.m_eq.trans k.m_eq.symm, h.d_eq.trans k.d_eq.symm⟩
theorem parse_any (s : ByteArray) (w : World) (hs : s.size ≤ maxLen) :
    Calls Tryd.prog 41 #[.string s] w fun e w' => ReadDate s e ∧ Below w.heap.size w w' := by
  by_cases h : s.size = 10
  · exact parse_ten s w h
  · exact parse_len s w h hs
theorem parse_yes (s : ByteArray) (y m d : Int) (w : World) (h : IsDate s y m d) :
    Calls Tryd.prog 41 #[.string s] w fun e w' => e = .returned (.tuple #[.agg #[.int .i64 y, .int .i64 m, .int .i64 d], .bool true]) ∧ Below w.heap.size w w' := by
  refine (parse_ten s w h.ten).mono ?_
  rintro e w' ⟨⟨y', m', d', k, he⟩ | ⟨k, _⟩, hb⟩
  · obtain ⟨rfl, rfl, rfl⟩ := isDate_one h k
    exact ⟨he, hb⟩
  · exact absurd ⟨_, _, _, h⟩ k
theorem parse_no (s : ByteArray) (w : World) (hs : s.size ≤ maxLen) (h : ¬ ∃ y m d, IsDate s y m d) :
    Calls Tryd.prog 41 #[.string s] w fun e w' => e = .returned (.tuple #[.agg #[.int .i64 0, .int .i64 0, .int .i64 0], .bool false]) ∧ Below w.heap.size w w' := by
  refine (parse_any s w hs).mono ?_
  rintro e w' ⟨⟨y', m', d', k, _⟩ | ⟨_, he⟩, hb⟩
  · exact absurd ⟨_, _, _, k⟩ h
  · exact ⟨he, hb⟩
end Go.Proofs.YtcknllkbeadmlaaDoor

/- Package utc: with which second a day begins, how many it has, which one of it one is; Of. -/
import Derived.Test.YtcknllkbeadmlaaDoorUtC
import Derived.Test.YtcknllkbeadmlaaDoorLpI
import Derived.Test.YtcknllkbeadmlaaDoorLpJ
import Derived.Test.YtcknllkbeadmlaaDoorFxA
import Derived.Test.YtcknllkbeadmlaaDoorLpN
namespace Go.Proofs.YtcknllkbeadmlaaDoor
open Go.RowKit
set_option linter.unusedSimpArgs false
set_option linter.unusedVariables false

section
variable {st ah en : Int} {L : List (Int × Int)}
theorem ubegin_yes (w : World) (q : Nat) (d : Int) (g : GTab st ah en L) (h : Rt w w.heap.size q ⟨st, ah, en, L⟩) (h1 : st ≤ d) (h2 : d < en) :
    Calls Tryd.prog 28 #[.pointer (some ⟨q, 0, none⟩), .int .i64 d] w fun e w' => e = .returned (.tuple #[.int .i64 (beginV ah L d), .bool true]) ∧ Below w.heap.size w w' := by
  have HA := Lib.hid (ahead_yes w q ⟨st, ah, en, L⟩ d h h1 h2 g.ones ⟨g.fine.a1, by have := g.fine.a2; show ah ≤ 1000; omega⟩)
  have b1 := g.lead d
  have s1 := g.fine.s1
  have e2 := g.fine.e2
  unfold beginV
  dsimp only at HA
  obtain ⟨A, hA⟩ : ∃ A, aheadL ah L d = A := ⟨_, rfl⟩
  rw [hA] at HA b1 ⊢
  have m1 := IntWalk.i64_in (86400 * d) (by omega)
  have m2 := IntWalk.i64_in (86400 * d + A) (by omega)
  clear hA b1 s1 e2 g h
  go_enter Tryd.func28, Tryd.ntmps28
  go_wp2_with (go_at_call 51; refine HA.out.mono ?_; rintro e w1 ⟨rfl, hb1⟩)
  go_ret2
  exact ⟨rfl, hb1⟩
theorem ubegin_no (w : World) (p : Option Addr) (d : Int) (h : Src w w.heap.size p st en L) (hd : d < st ∨ en ≤ d) :
    Calls Tryd.prog 28 #[.pointer p, .int .i64 d] w fun e w' => e = .returned (.tuple #[.int .i64 0, .bool false]) ∧ Below w.heap.size w w' := by
  have HA := Lib.hid (ahead_no w w.heap.size p st en L d h hd)
  clear h hd
  go_enter Tryd.func28, Tryd.ntmps28
  go_wp2_with (go_at_call 51; refine HA.out.mono ?_; rintro e w1 ⟨rfl, hb1⟩)
  go_ret2
  exact ⟨rfl, hb1⟩
theorem ulong_any (w : World) (p : Option Addr) (d : Int) (g : GTab st ah en L) (h : Src w w.heap.size p st en L) :
    Calls Tryd.prog 29 #[.pointer p, .int .i64 d] w fun e w' => e = .returned (.int .i64 (lenV L d)) ∧ Below w.heap.size w w' := by
  have HA := Lib.hid (step_any w p st en L d h)
  have l := g.len d
  unfold lenV at l ⊢
  obtain ⟨A, hA⟩ : ∃ A, stepL L d = A := ⟨_, rfl⟩
  rw [hA] at HA l ⊢
  have m1 := IntWalk.i64_in (86400 + A) (by omega)
  clear hA l g h
  go_enter Tryd.func29, Tryd.ntmps29
  go_wp2_with (go_at_call 52; refine HA.out.mono ?_; rintro e w1 ⟨rfl, hb1⟩)
  go_ret
  exact ⟨rfl, hb1⟩
end
theorem of_is {y m d : Int} (h : CanD y m d) (w : World) :
    Calls Tryd.prog 25 #[.int .i64 (numV y m d)] w fun e w' => e = .returned (.tuple #[.agg #[.int .i64 y, .int .i64 m, .int .i64 d], .bool true]) ∧ Below w.heap.size w w' := by
  have hb := num_bd h
  refine (of_yes (numV y m d) w hb.1 hb.2).mono ?_
  rintro e w' ⟨⟨y', m', d', k, hn, he⟩, hw⟩
  obtain ⟨rfl, rfl, rfl⟩ := num_same k h hn
  exact ⟨he, hw⟩
theorem uat_any {y m d : Int} (h : CanD y m d) (D s : Int) (hD : numV y m d = D) (h1 : 0 ≤ s) (h2 : s ≤ 86400) (w : World) :
    Calls Tryd.prog 30 #[.int .i64 D, .int .i64 s] w fun e w' => e = .returned (.agg #[.int .i64 y, .int .i64 m, .int .i64 d, .int .i64 (hV s), .int .i64 (mV s), .int .i64 (sV s)]) ∧ Below w.heap.size w w' := by
  subst hD
  have HO := Lib.hid (fun W => of_is h W)
  have HR := Lib.hid (Box.start w 35 #[.int .i64 0, .int .i64 0, .int .i64 0, .int .i64 0, .int .i64 0, .int .i64 0])
  have us : (Tryd.prog.info? 35).map (·.size) = some 6 := by kernel_rfl
  obtain ⟨N, hN⟩ : ∃ N, numV y m d = N := ⟨_, rfl⟩
  rw [hN] at HO ⊢
  clear hN h
  unfold hV mV sV
  by_cases hs : s = 86400
  · subst hs
    rw [if_pos rfl, if_pos rfl, if_pos rfl]
    go_enter Tryd.func30, Tryd.ntmps30
    go_wp2_with (go_at_call 25; refine (HO.out _).mono ?_; rintro e w1 ⟨rfl, hb1⟩; have HD := Lib.hid (Box.start w1 33 #[.int .i64 y, .int .i64 m, .int .i64 d]); obtain ⟨c0, c1, c2, _⟩ := HD.out.cells3; replace HR := Lib.hid ((HR.out.next hb1).next HD.out.below); obtain ⟨r0, r1, r2, r3, r4, r5, g0, g1, g2, g3, g4, g5⟩ := HR.out.six)
    refine bodyPost_ret (results_cell_row rfl _ _ w.heap.size 35 #[.int .i64 y, .int .i64 m, .int .i64 d, .int .i64 23, .int .i64 59, .int .i64 60] (0, 0) _ rfl (HR.out.fill _ _ _ _ _ _).holds Tryd.underlying35 rfl us) rfl ?_
    exact ⟨rfl, (HR.out.fill _ _ _ _ _ _).below⟩
  · rw [if_neg hs, if_neg hs, if_neg hs]
    have hb := beq_no hs
    have e1 := tdiv_of h1 3600
    have e2 := tmod_of h1 3600
    have e3 := tdiv_of (show 0 ≤ s % 3600 by omega) 60
    have e4 := tmod_of h1 60
    have e5 := IntWalk.i64_in (s / 3600) (by omega)
    have e6 := IntWalk.i64_in (s % 3600) (by omega)
    have e7 := IntWalk.i64_in (s % 3600 / 60) (by omega)
    have e8 := IntWalk.i64_in (s % 60) (by omega)
    go_enter Tryd.func30, Tryd.ntmps30
    go_wp2_with (go_at_call 25; refine (HO.out _).mono ?_; rintro e w1 ⟨rfl, hb1⟩; have HD := Lib.hid (Box.start w1 33 #[.int .i64 y, .int .i64 m, .int .i64 d]); obtain ⟨c0, c1, c2, _⟩ := HD.out.cells3; replace HR := Lib.hid ((HR.out.next hb1).next HD.out.below); obtain ⟨r0, r1, r2, r3, r4, r5, g0, g1, g2, g3, g4, g5⟩ := HR.out.six)
    refine bodyPost_ret (results_cell_row rfl _ _ w.heap.size 35 #[.int .i64 y, .int .i64 m, .int .i64 d, .int .i64 (s / 3600), .int .i64 (s % 3600 / 60), .int .i64 (s % 60)] (0, 0) _ rfl (HR.out.fill _ _ _ _ _ _).holds Tryd.underlying35 rfl us) rfl ?_
    exact ⟨rfl, (HR.out.fill _ _ _ _ _ _).below⟩
/-- What Of answers. -/
def OfPost (st ah en : Int) (L : List (Int × Int)) (tai : Int) (w : World) (e : Ending) (w' : World) : Prop :=
  ((∃ D y m d, OnDay st ah en L tai D ∧ CanD y m d ∧ numV y m d = D ∧ e = .returned (.tuple #[.agg #[.int .i64 y, .int .i64 m, .int .i64 d, .int .i64 (hV (tai - beginV ah L D)), .int .i64 (mV (tai - beginV ah L D)), .int .i64 (sV (tai - beginV ah L D))], .int .i64 0])) ∨
    ((¬ ∃ D, OnDay st ah en L tai D) ∧ e = .returned (.tuple #[.agg #[.int .i64 0, .int .i64 0, .int .i64 0, .int .i64 0, .int .i64 0, .int .i64 0], .int .i64 11]))) ∧ Below w.heap.size w w'
theorem utcs : (Tryd.prog.info? 35).map (·.size) = some 6 := by kernel_rfl
theorem uof_nil (tai : Int) (w : World) :
    Calls Tryd.prog 11 #[.pointer none, .int .i64 tai] w fun e w' => e = .returned (.tuple #[.agg #[.int .i64 0, .int .i64 0, .int .i64 0, .int .i64 0, .int .i64 0, .int .i64 0], .int .i64 2]) ∧ Below w.heap.size w w' := by
  have HR := Lib.hid (Box.start w 35 #[.int .i64 0, .int .i64 0, .int .i64 0, .int .i64 0, .int .i64 0, .int .i64 0])
  obtain ⟨r0, r1, r2, r3, r4, r5, g0, g1, g2, g3, g4, g5⟩ := HR.out.six
  go_enter Tryd.func11, Tryd.ntmps11
  go_wp2
  refine bodyPost_ret (results_row_tmp rfl _ _ w.heap.size 35 [.int .i64 0, .int .i64 0, .int .i64 0, .int .i64 0, .int .i64 0, .int .i64 0] _ _ rfl HR.out.holds Tryd.underlying35 rfl utcs rfl) rfl ?_
  exact ⟨rfl, HR.out.below⟩
theorem near_ix (N : Int) (k : Nat) (hk : k < 3) (W : World) : (Instr.index 68 (.agg #[.int .i64 (N - 1), .int .i64 N, .int .i64 (N + 1)]) (.int .i64 (k : Int))).run Tryd.prog W = .ok (.int .i64 (N - 1 + (k : Int))) W := by
  rcases (by omega : k = 0 ∨ k = 1 ∨ k = 2) with rfl | rfl | rfl
  · rw [show N - 1 + ((0 : Nat) : Int) = N - 1 by omega]; kernel_rfl
  · rw [show N - 1 + ((1 : Nat) : Int) = N by omega]; kernel_rfl
  · rw [show N - 1 + ((2 : Nat) : Int) = N + 1 by omega]; kernel_rfl
set_option maxHeartbeats 4000000 in
theorem uof_any (st ah en tai : Int) (L : List (Int × Int)) (q : Nat) (w : World) (g : GTab st ah en L) (h : Rt w w.heap.size q ⟨st, ah, en, L⟩) (ht : Fits tai) :
    Calls Tryd.prog 11 #[.pointer (some ⟨q, 0, none⟩), .int .i64 tai] w (OfPost st ah en L tai w) := by
  have HR := Lib.hid (Box.start w 35 #[.int .i64 0, .int .i64 0, .int .i64 0, .int .i64 0, .int .i64 0, .int .i64 0])
  have HF := Lib.hid (fun W => floor_yes tai 86400 W ht (by decide) (by decide))
  obtain ⟨t1, t2⟩ := ht
  have HG := Lib.hid g
  have HT := Lib.hid h
  obtain ⟨N, hN⟩ : ∃ N, tai / 86400 = N := ⟨_, rfl⟩
  have n1 : 86400 * N ≤ tai ∧ tai < 86400 * N + 86400 := by omega
  have HNR := Lib.hid (fun D (k : OnDay st ah en L tai D) => k.near g)
  rw [hN] at HF HNR
  have e1 := IntWalk.i64_in (N - 1) (by omega)
  have e2 := IntWalk.i64_in (N + 1) (by omega)
  have s1 := g.fine.s1
  have s2 := g.fine.e2
  clear hN h g
  go_enter Tryd.func11, Tryd.ntmps11
  go_wp2_with (go_at_call 27; refine (HF.out _).mono ?_; rintro e w1 ⟨rfl, n, hw1⟩; have HR1 := Lib.hid (show Box w 35 #[.int .i64 0, .int .i64 0, .int .i64 0, .int .i64 0, .int .i64 0, .int .i64 0] w1 by rw [hw1]; exact HR.out.drewN n); clear hw1)
  clear HF
  go_loopw [28] (fun i wr => ∃ k : Nat, k ≤ 3 ∧ i = .int .i64 (k : Int) ∧ (∀ j : Nat, j < k → ¬ OnDay st ah en L tai (N - 1 + (j : Int))) ∧ Box w 35 #[.int .i64 0, .int .i64 0, .int .i64 0, .int .i64 0, .int .i64 0, .int .i64 0] wr) (fun i _ => 3 - (intOf i).toNat)
  case atStart => exact ⟨0, by decide, rfl, fun j hj => absurd hj (Nat.not_lt_zero _), HR1.out⟩
  case round =>
    clear HR HR1
    obtain ⟨k, hk, rfl, hno, hx⟩ := hrel
    have HX := Lib.hid hx
    have HNO := Lib.hid hno
    clear hx hno
    by_cases hlt : k < 3
    · have hltI : decide ((k : Int) < 3) = true := decide_eq_true (by omega)
      have hix := near_ix N k hlt
      have ew := IntWalk.i64_in ((k : Int) + 1) (by omega)
      obtain ⟨D, hD⟩ : ∃ D, N - 1 + (k : Int) = D := ⟨_, rfl⟩
      rw [hD] at hix
      have HNX := Lib.hid (fun (hn : ¬ OnDay st ah en L tai D) (j : Nat) (hj : j < k + 1) => (show ¬ OnDay st ah en L tai (N - 1 + (j : Int)) from by
        rcases (by omega : j < k ∨ j = k) with h | rfl
        · exact HNO.out j h
        · rw [hD]; exact hn))
      have dn : N - 1 ≤ D ∧ D ≤ N + 1 := by omega
      clear hD
      by_cases hr : st ≤ D ∧ D < en
      · have HB := Lib.hid (fun W (hW : Box w 35 #[.int .i64 0, .int .i64 0, .int .i64 0, .int .i64 0, .int .i64 0, .int .i64 0] W) => ubegin_yes W q D HG.out ((HT.out.below hW.below).mono hW.below.size) hr.1 hr.2)
        have HL := Lib.hid (fun W (hW : Box w 35 #[.int .i64 0, .int .i64 0, .int .i64 0, .int .i64 0, .int .i64 0, .int .i64 0] W) => ulong_any W (some ⟨q, 0, none⟩) D HG.out (((HT.out.below hW.below).mono hW.below.size).src))
        have bb := HG.out.beg D
        have bl := HG.out.len D
        obtain ⟨B, hB⟩ : ∃ B, beginV ah L D = B := ⟨_, rfl⟩
        obtain ⟨C, hC⟩ : ∃ C, lenV L D = C := ⟨_, rfl⟩
        have HD := Lib.hid (show OnDay st ah en L tai D ↔ (B ≤ tai ∧ tai < B + C) from ⟨fun h => ⟨by rw [← hB]; exact h.b, by rw [← hB, ← hC]; exact h.e⟩, fun h => ⟨hr.1, hr.2, by rw [hB]; exact h.1, by rw [hB, hC]; exact h.2⟩⟩)
        rw [hB] at HB bb
        rw [hC] at HL bl
        have HBE := Lib.hid hB
        have e3 := IntWalk.i64_in (tai - B) (by omega)
        clear hB hC
        by_cases hle : B ≤ tai
        · have t1 : decide (B ≤ tai) = true := decide_eq_true hle
          by_cases hin : tai - B < C
          · have t2 : decide (tai - B < C) = true := decide_eq_true hin
            obtain ⟨y, m, d, hc, hn⟩ := date_ex (n := D) (by omega) (by omega)
            have HA := Lib.hid (fun W => uat_any hc D (tai - B) hn (by omega) (by omega) W)
            have HON := Lib.hid (HD.out.2 ⟨hle, by omega⟩)
            have HCN := Lib.hid (And.intro hc hn)
            have HEE := Lib.hid (show tai - beginV ah L D = tai - B by rw [HBE.out])
            clear hc hn hle hin
            obtain ⟨a, ha⟩ : ∃ a, hV (tai - B) = a := ⟨_, rfl⟩
            obtain ⟨b, hb⟩ : ∃ a, mV (tai - B) = a := ⟨_, rfl⟩
            obtain ⟨c, hc⟩ : ∃ a, sV (tai - B) = a := ⟨_, rfl⟩
            have HABC := Lib.hid (show hV (tai - beginV ah L D) = a ∧ mV (tai - beginV ah L D) = b ∧ sV (tai - beginV ah L D) = c by rw [HEE.out]; exact ⟨ha, hb, hc⟩)
            rw [ha, hb, hc] at HA
            clear ha hb hc HEE
            go_wp2_with (first
              | (go_at_call 28; with_reducible refine (HB.out _ HX.out).mono ?_; rintro e w2 ⟨rfl, hb2⟩; replace HX := Lib.hid (HX.out.next hb2); clear hb2)
              | (go_at_call 29; refine (HL.out _ HX.out).mono ?_; rintro e w3 ⟨rfl, hb3⟩; replace HX := Lib.hid (HX.out.next hb3); clear hb3)
              | (go_at_call 30; refine (HA.out _).mono ?_; rintro e w4 ⟨rfl, hb4⟩; replace HX := Lib.hid (HX.out.next hb4); clear hb4; obtain ⟨r0, r1, r2, r3, r4, r5, g0, g1, g2, g3, g4, g5⟩ := HX.out.six))
            refine bodyPost_ret (results_row_tmp rfl _ _ w.heap.size 35 [.int .i64 y, .int .i64 m, .int .i64 d, .int .i64 a, .int .i64 b, .int .i64 c] _ _ rfl (HX.out.fill _ _ _ _ _ _).holds Tryd.underlying35 rfl utcs rfl) rfl ?_
            obtain ⟨k1, k2, k3⟩ := HABC.out
            exact ⟨.inl ⟨D, y, m, d, HON.out, HCN.out.1, HCN.out.2, by rw [k1, k2, k3]; rfl⟩, (HX.out.fill _ _ _ _ _ _).below⟩
          · have t2 : decide (tai - B < C) = false := decide_eq_false hin
            have HN2 := Lib.hid (HNX.out (fun h => by have := HD.out.1 h; omega))
            go_wp2_with (first
              | (go_at_call 28; with_reducible refine (HB.out _ HX.out).mono ?_; rintro e w2 ⟨rfl, hb2⟩; replace HX := Lib.hid (HX.out.next hb2); clear hb2)
              | (go_at_call 29; refine (HL.out _ HX.out).mono ?_; rintro e w3 ⟨rfl, hb3⟩; replace HX := Lib.hid (HX.out.next hb3); clear hb3))
            go_roundw
            case rel => exact ⟨k + 1, by omega, by go_num, HN2.out, HX.out⟩
            case measure => simp [intOf]; omega
        · have t1 : decide (B ≤ tai) = false := decide_eq_false hle
          have HN2 := Lib.hid (HNX.out (fun h => by have := HD.out.1 h; omega))
          go_wp2_with (go_at_call 28; with_reducible refine (HB.out _ HX.out).mono ?_; rintro e w2 ⟨rfl, hb2⟩; replace HX := Lib.hid (HX.out.next hb2); clear hb2)
          go_roundw
          case rel => exact ⟨k + 1, by omega, by go_num, HN2.out, HX.out⟩
          case measure => simp [intOf]; omega
      · have HB := Lib.hid (fun W (hW : Box w 35 #[.int .i64 0, .int .i64 0, .int .i64 0, .int .i64 0, .int .i64 0, .int .i64 0] W) => ubegin_no W (some ⟨q, 0, none⟩) D (((HT.out.below hW.below).mono hW.below.size).src) (show D < st ∨ en ≤ D by omega))
        have HN2 := Lib.hid (HNX.out (fun h => hr ⟨h.lo, h.hi⟩))
        go_wp2_with (go_at_call 28; with_reducible refine (HB.out _ HX.out).mono ?_; rintro e w2 ⟨rfl, hb2⟩; replace HX := Lib.hid (HX.out.next hb2); clear hb2)
        go_roundw
        case rel => exact ⟨k + 1, by omega, by go_num, HN2.out, HX.out⟩
        case measure => simp [intOf]; omega
    · have hltI : decide ((k : Int) < 3) = false := decide_eq_false (by omega)
      have hk3 : k = 3 := by omega
      have HN2 := Lib.hid (show ¬ ∃ D, OnDay st ah en L tai D from fun ⟨D, h⟩ => by
        have hn := HNR.out D h
        have := HNO.out (D - N + 1).toNat (by omega)
        rw [show N - 1 + ((D - N + 1).toNat : Int) = D by omega] at this
        exact this h)
      clear hk3
      obtain ⟨r0, r1, r2, r3, r4, r5, g0, g1, g2, g3, g4, g5⟩ := HX.out.six
      go_wp2
      refine bodyPost_ret (results_row_tmp rfl _ _ w.heap.size 35 [.int .i64 0, .int .i64 0, .int .i64 0, .int .i64 0, .int .i64 0, .int .i64 0] _ _ rfl (HX.out.fill _ _ _ _ _ _).holds Tryd.underlying35 rfl utcs rfl) rfl ?_
      exact ⟨.inr ⟨HN2.out, rfl⟩, (HX.out.fill _ _ _ _ _ _).below⟩
end Go.Proofs.YtcknllkbeadmlaaDoor

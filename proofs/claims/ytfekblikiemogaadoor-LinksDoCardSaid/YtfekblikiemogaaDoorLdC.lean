/- The document's Hops. -/
import Derived.Test.YtfekblikiemogaaDoorLdB
import Derived.Test.YtfekblikiemogaaDoorLdM
import Derived.LoopTactic
namespace Go.Proofs.YtfekblikiemogaaDoor
open Go.RowKit
set_option linter.unusedVariables false
set_option linter.unusedSimpArgs false

theorem filling_put {n k : Nat} (h : k < n) : ((filling n k).toArray).setIfInBounds k (.int .i64 (-1)) = (filling n (k + 1)).toArray := by
  obtain ⟨m, hm⟩ : ∃ m, n - k = m + 1 := ⟨n - k - 1, by omega⟩
  have e : (filling n k).set k (.int .i64 (-1)) = filling n (k + 1) := by
    unfold filling
    rw [hm, show n - (k + 1) = m by omega, List.set_append_right _ _ (by simp), List.length_replicate, Nat.sub_self, List.replicate_succ, List.set_cons_zero, List.replicate_succ', List.append_assoc]
    rfl
  rw [← e]
  simp
/-- The row of the document's hops, and the links. -/
structure DRun (w : World) (gm b n : Nat) (M : List Nat) (H : List Int) (W : World) : Prop where
  row : Holds W b 3 (ints H)
  dk : Dk W gm n M
  below : Below w.heap.size w W
theorem DRun.put {w : World} {gm b n : Nat} {M : List Nat} {H : List Int} {W : World} (h : DRun w gm b n M H W) (hb : w.heap.size ≤ b) (hg : gm < w.heap.size) (k : Nat) (z : Int) : DRun w gm b n M (H.set k z) (W.setCell ⟨b, k, none⟩ (.int .i64 z)) := by
  have hc := Chg.set (S := fun x => x = b) W b k (.int .i64 z) rfl
  refine ⟨?_, h.dk.chg hc (by omega), h.below.setCell (p := ⟨b, k, none⟩) hb _⟩
  have := h.row.put k (.int .i64 z)
  rwa [ints_set] at this
theorem DRun.cell {w : World} {gm b n : Nat} {M : List Nat} {H : List Int} {W : World} (h : DRun w gm b n M H W) {k : Nat} (hk : k < H.length) : W.cell? ⟨b, k, none⟩ = some (.int .i64 (H.getD k 0)) := by
  rw [h.row.cell]
  simp [ints, List.getD, hk]
set_option maxRecDepth 100000 in
set_option maxHeartbeats 8000000 in
theorem dhops_any (w : World) (gm n : Nat) (M : List Nat) (h : Dk w gm n M) (hN : Net M) (hl : M.length = n) (hn1 : 1 ≤ n) (h64 : n ≤ 64) (i : Int) (on : Nat) (hon : on < 18446744073709551616) :
    Calls Tryd.prog 22 #[.pointer (some ⟨gm, 0, none⟩), .int .i64 i, .int .u64 on] w (GaveInts n (HopsAre M on i) w) := by
  have hmk := make_ints n h64
  have hgm := h.lt
  have c0 := h.count
  have hw1 : Holds (w.alloc (.cells (Array.replicate n (Value.int .i64 0)) 3)) w.heap.size 3 (Array.replicate n (Value.int .i64 0)) := Holds.new w _ _
  have hd1 := h.below (below_alloc w (.cells (Array.replicate n (Value.int .i64 0)) 3))
  obtain ⟨b, hb⟩ : ∃ b, w.heap.size = b := ⟨_, rfl⟩
  have H0 := Lib.hid (show Holds (w.alloc (.cells (Array.replicate n (Value.int .i64 0)) 3)) b 3 (filling n 0).toArray ∧ Below w.heap.size w (w.alloc (.cells (Array.replicate n (Value.int .i64 0)) 3)) from ⟨by rw [← hb]; simpa [filling] using hw1, below_alloc _ _⟩)
  have HD := Lib.hid h
  clear hw1 hd1 h
  go_enter Tryd.func22, Tryd.ntmps22
  go_wp2
  go_loopw [19] (fun i wr => ∃ k : Nat, k ≤ n ∧ i = .int .i64 k ∧ Holds wr b 3 (filling n k).toArray ∧ Below w.heap.size w wr) (fun i _ => n - (intOf i).toNat)
  case atStart => exact ⟨0, Nat.zero_le _, rfl, H0.out.1, H0.out.2⟩
  case round =>
    obtain ⟨k, hk, rfl, hH, hbw⟩ := hrel
    by_cases hkn : k < n
    · have ck : wr.cell? ⟨b, k, none⟩ = some (.int .i64 0) := by
        rw [hH.cell]
        simp [filling, List.getElem?_append_right, List.getElem?_replicate, show 0 < n - k by omega]
      have fk := hH.soft k
      have hki : (k : Int) < (n : Int) := by omega
      have ew := IntWalk.i64_in ((k : Int) + 1) (by omega)
      have hput := hH.put k (.int .i64 (-1))
      rw [filling_put hkn] at hput
      have hbw2 := hbw.setCell (p := ⟨b, k, none⟩) (by show w.heap.size ≤ b; omega) (.int .i64 (-1))
      have HP := Lib.hid hput
      have HB2 := Lib.hid hbw2
      clear hH hbw hput hbw2
      go_wp2
      go_roundw
      case rel => exact ⟨k + 1, by omega, by go_num, HP.out, hb ▸ HB2.out⟩
      case measure => simp [intOf]; omega
    · have hkn' : n = k := by omega
      subst hkn'
      rw [filling_all] at hH
      have hdk := HD.out.below hbw
      have c1 := hdk.count
      have hrun : DRun w gm b n M (List.replicate n (-1)) wr := ⟨hH, hdk, hbw⟩
      have HR := Lib.hid hrun
      clear hH hdk hbw hrun
      by_cases hi0 : i < 0
      · have d1 : decide (i < 0) = true := decide_eq_true hi0
        go_wp2
        go_ret
        exact ⟨b, _, rfl, by omega, HR.out.row, by simp, .inr ⟨inB_neg hi0, by rw [hl]⟩, HR.out.below⟩
      by_cases hin : (n : Int) ≤ i
      · have d1 : decide (i < 0) = false := decide_eq_false hi0
        have d2 : decide ((n : Int) ≤ i) = true := decide_eq_true hin
        go_wp2
        go_ret
        exact ⟨b, _, rfl, by omega, HR.out.row, by simp, .inr ⟨inB_far (by omega), by rw [hl]⟩, HR.out.below⟩
      obtain ⟨a, rfl⟩ : ∃ a : Nat, i = a := ⟨i.toNat, by omega⟩
      have ha : a < n := by omega
      have hina := in_any wr on hon (a : Int)
      rw [inSet_nat (by omega)] at hina
      have d1 : decide ((a : Int) < 0) = false := decide_eq_false hi0
      have d2 : decide ((n : Int) ≤ (a : Int)) = false := decide_eq_false hin
      rcases hbit : on.testBit a with _ | _
      · rw [hbit] at hina
        have HBit := Lib.hid hbit
        clear hbit
        go_wp2_with (go_at_call 19; refine hina.mono ?_; rintro e w3 ⟨rfl, hw⟩; subst w3)
        go_ret
        refine ⟨b, _, rfl, by omega, HR.out.row, by simp, .inl ⟨inB_yes (by omega) (by omega), ?_⟩, HR.out.below⟩
        rw [Int.toNat_natCast, ← hl]
        exact IsHops.off HBit.out
      · rw [hbit] at hina
        have ca := HR.out.cell (k := a) (by simpa using ha)
        have fa := HR.out.row.soft a
        have hai : (a : Int) < (n : Int) := by omega
        have hr1 := HR.out.put (by omega) (by omega) a 0
        have htold : Told M on a 1 ((List.replicate n (-1)).set a 0) := by
          rw [← hl]
          exact Told.first (by omega) hbit
        have HR1 := Lib.hid hr1
        have HT1 := Lib.hid htold
        have HL := Lib.hid hl
        have HN := Lib.hid hN
        clear hr1 htold hbit hkn hl hN
        go_wp2_with (go_at_call 19; refine hina.mono ?_; rintro e w3 ⟨rfl, hw⟩; subst w3)
        have hbw : w.heap.size ≤ b := by omega
        have HHb := Lib.hid hb
        clear hb hina ca fa hk c0 c1 hmk
        go_loopw [9] (fun i wr => ∃ (d : Nat) (H : List Int), d ≤ n ∧ i = .int .i64 d ∧ Told M on a (d + 1) H ∧ DRun w gm b n M H wr) (fun i _ => n - (intOf i).toNat)
        case atStart => exact ⟨0, _, Nat.zero_le _, rfl, HT1.out, HR1.out⟩
        case round =>
          obtain ⟨d, H, hd, rfl, htold, hrun⟩ := hrel
          have c0 := hrun.dk.count
          have HRun := Lib.hid hrun
          have HTold := Lib.hid htold
          clear hrun htold
          by_cases hdn : d < n
          · have hdi : (d : Int) < (n : Int) := by omega
            have ed := IntWalk.i64_in ((d : Int) + 1) (by omega)
            have hmid := Mid.start HTold.out
            have HMid := Lib.hid hmid
            clear hmid
            go_wp2
            go_loopw [10] (fun i wr => ∃ (x : Nat) (H : List Int), x ≤ n ∧ i = .int .i64 x ∧ Mid M on a d x 0 H ∧ DRun w gm b n M H wr) (fun i _ => n - (intOf i).toNat)
            case atStart => exact ⟨0, _, Nat.zero_le _, rfl, HMid.out, HRun.out⟩
            case round =>
              obtain ⟨x, H2, hx, rfl, hmid, hrun⟩ := hrel
              have c0 := hrun.dk.count
              have HRun2 := Lib.hid hrun
              have HMid2 := Lib.hid hmid
              clear hrun hmid
              by_cases hxn : x < n
              · have hxi : (x : Int) < (n : Int) := by omega
                have ex := IntWalk.i64_in ((x : Int) + 1) (by omega)
                go_wp2
                go_loopw [11] (fun i wr => ∃ (y : Nat) (H : List Int), y ≤ n ∧ i = .int .i64 y ∧ Mid M on a d x y H ∧ DRun w gm b n M H wr) (fun i _ => n - (intOf i).toNat)
                case atStart => exact ⟨0, _, Nat.zero_le _, rfl, HMid2.out, HRun2.out⟩
                case round =>
                  obtain ⟨y, H3, hy, rfl, hmid, hrun⟩ := hrel
                  have c0 := hrun.dk.count
                  by_cases hyn : y < n
                  · have hyi : (y : Int) < (n : Int) := by omega
                    have ey := IntWalk.i64_in ((y : Int) + 1) (by omega)
                    have hH3 : H3.length = n := by rw [← HL.out]; exact hmid.1
                    have cx := hrun.cell (k := x) (by omega)
                    have cy := hrun.cell (k := y) (by omega)
                    have cn := hrun.dk.at (i := x) (k := y) (by omega) (by omega)
                    have fy := hrun.row.soft y
                    have hx64 : (x : Int) < 64 := by omega
                    have hy64 : (y : Int) < 64 := by omega
                    have hiny := in_any wr on hon (y : Int)
                    rw [inSet_nat (by omega)] at hiny
                    have hno := hmid.no (by rw [HL.out]; exact hxn) (by rw [HL.out]; exact hyn)
                    have hyes := hmid.yes (by rw [HL.out]; exact hxn) (by rw [HL.out]; exact hyn)
                    have hput := hrun.put hbw hgm y ((d + 1 : Nat) : Int)
                    rw [show (((d + 1 : Nat) : Nat) : Int) = (d : Int) + 1 by omega] at hput hyes
                    obtain ⟨X, hX⟩ : ∃ X, H3.getD x 0 = X := ⟨_, rfl⟩
                    obtain ⟨Y, hY⟩ : ∃ Y, H3.getD y 0 = Y := ⟨_, rfl⟩
                    rw [hX, hY] at hno hyes
                    rw [hX] at cx
                    rw [hY] at cy
                    have HNo := Lib.hid hno
                    have HYes := Lib.hid hyes
                    have HPut := Lib.hid hput
                    have HRun3 := Lib.hid hrun
                    clear hno hyes hput hmid hrun hX hY hH3
                    by_cases e1 : X = (d : Int)
                    · have t1 : (X == (d : Int)) = true := by simp [e1]
                      by_cases e2 : Y < 0
                      · have t2 : decide (Y < 0) = true := decide_eq_true e2
                        rcases e3 : adj M x y with _ | _
                        · rw [e3] at cn
                          have HM4 := Lib.hid (HNo.out (fun h => by rw [e3] at h; cases h.2.2.1))
                          clear e1 e2 e3
                          go_wp2
                          go_roundw
                          case rel => exact ⟨y + 1, _, by omega, by go_num, HM4.out, HRun3.out⟩
                          case measure => simp [intOf]; omega
                        · rw [e3] at cn
                          rcases e4 : on.testBit y with _ | _
                          · rw [e4] at hiny
                            have HM4 := Lib.hid (HNo.out (fun h => by rw [e4] at h; cases h.2.2.2))
                            clear e1 e2 e3 e4
                            go_wp2_with (go_at_call 19; refine hiny.mono ?_; rintro e w3 ⟨rfl, hw⟩; subst w3)
                            go_roundw
                            case rel => exact ⟨y + 1, _, by omega, by go_num, HM4.out, HRun3.out⟩
                            case measure => simp [intOf]; omega
                          · rw [e4] at hiny
                            have HM4 := Lib.hid (HYes.out e1 e2 e3 e4)
                            clear e1 e2 e3 e4
                            go_wp2_with (go_at_call 19; refine hiny.mono ?_; rintro e w3 ⟨rfl, hw⟩; subst w3)
                            go_roundw
                            case rel => exact ⟨y + 1, _, by omega, by go_num, HM4.out, HPut.out⟩
                            case measure => simp [intOf]; omega
                      · have t2 : decide (Y < 0) = false := decide_eq_false e2
                        have HM4 := Lib.hid (HNo.out (fun h => e2 h.2.1))
                        clear e1 e2
                        go_wp2
                        go_roundw
                        case rel => exact ⟨y + 1, _, by omega, by go_num, HM4.out, HRun3.out⟩
                        case measure => simp [intOf]; omega
                    · have t1 : (X == (d : Int)) = false := by simp [e1]
                      have HM4 := Lib.hid (HNo.out (fun h => e1 h.1))
                      clear e1
                      go_wp2
                      go_roundw
                      case rel => exact ⟨y + 1, _, by omega, by go_num, HM4.out, HRun3.out⟩
                      case measure => simp [intOf]; omega
                  · have hyn' : y = n := by omega
                    have hrow : Mid M on a d (x + 1) 0 H3 := by
                      rw [hyn', ← HL.out] at hmid
                      exact hmid.row
                    have HRow := Lib.hid hrow
                    have HRun3 := Lib.hid hrun
                    clear hmid hrow hrun hyn'
                    go_wp2
                    go_roundw
                    case rel => exact ⟨x + 1, _, by omega, by go_num, HRow.out, HRun3.out⟩
                    case measure => simp [intOf]; omega
              · have hxn' : x = n := by omega
                have hdone : Told M on a (d + 1 + 1) H2 := by
                  have := HMid2.out
                  rw [hxn', ← HL.out] at this
                  exact this.done HN.out (by rw [HL.out]; exact ha)
                have HDone := Lib.hid hdone
                clear hdone hxn'
                go_wp2
                go_roundw
                case rel => exact ⟨d + 1, _, by omega, by go_num, HDone.out, HRun2.out⟩
                case measure => simp [intOf]; omega
          · have hdn' : d = n := by omega
            have hlast : IsHops M on a H := by
              have := HTold.out
              rw [hdn', ← HL.out] at this
              exact this.last HN.out (by rw [HL.out]; exact ha)
            have HLast := Lib.hid hlast
            clear hlast hdn'
            go_wp2
            go_ret
            refine ⟨b, H, rfl, hbw, HRun.out.row, by rw [HLast.out.1, HL.out], .inl ⟨inB_yes (by omega) (by rw [HL.out]; omega), ?_⟩, HRun.out.below⟩
            rw [Int.toNat_natCast]
            exact HLast.out
end Go.Proofs.YtfekblikiemogaaDoor

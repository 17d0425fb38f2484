/- The document's Wide. -/
import Derived.Test.YtfekblikiemogaaDoorLdC
namespace Go.Proofs.YtfekblikiemogaaDoor
open Go.RowKit
set_option linter.unusedVariables false
set_option linter.unusedSimpArgs false

theorem max_nat (a b : Nat) (w : World) : (Builtin.max_ #[3, 3] 3 #[.int .i64 (a : Int), .int .i64 (b : Int)]).run Tryd.prog w = .ok (.int .i64 ((if a < b then b else a : Nat) : Int)) w := by
  rw [run_max2]
  congr 2
  split <;> split <;> omega
set_option maxRecDepth 100000 in
set_option maxHeartbeats 8000000 in
theorem dwide_any (w : World) (gm n : Nat) (M : List Nat) (h : Dk w gm n M) (hN : Net M) (hl : M.length = n) (hn1 : 1 ≤ n) (h64 : n ≤ 64) (on : Nat) (hon : on < 18446744073709551616) :
    Calls Tryd.prog 20 #[.pointer (some ⟨gm, 0, none⟩), .int .u64 on] w (GaveWide M (on &&& (2 ^ n - 1)) w) := by
  obtain ⟨O, hO⟩ : ∃ O, on &&& (2 ^ n - 1) = O := ⟨_, rfl⟩
  have hOb : ∀ j, j < n → on.testBit j = O.testBit j := fun j hj => by
    rw [← hO, Nat.testBit_and, all_bit]
    simp [hj]
  have hOn : ∀ j, O.testBit j = true → j < n := fun j hj => by
    rw [← hO, Nat.testBit_and, all_bit] at hj
    simp at hj
    exact hj.2
  have hOfit : O < 18446744073709551616 := by rw [← hO]; exact Nat.lt_of_le_of_lt Nat.and_le_left hon
  have hfirst : ∀ {x d k : Nat}, x < n → (First M O x d k ↔ First M on x d k) := fun {x d k} hx => by
    rw [← hO, ← hl]
    exact first_mask hN (by omega)
  have hreach : ∀ {x d k : Nat}, x < n → (Reach M O x d k ↔ Reach M on x d k) := fun {x d k} hx => by
    rw [← hO, ← hl]
    exact reach_mask hN (by omega)
  rw [hO]
  have hgm := h.lt
  have HD := Lib.hid h
  have HOb := Lib.hid hOb
  have HOn := Lib.hid hOn
  have HL := Lib.hid hl
  have HN := Lib.hid hN
  have c0 := h.count
  clear h hOb hOn hl hN hO
  go_enter Tryd.func20, Tryd.ntmps20
  go_wp2
  go_loopw [6, 7, 8] (fun m s i wr => ∃ (x v : Nat), x ≤ n ∧ i = .int .i64 x ∧ m = .int .i64 v ∧ s = .bool (!(bitsTo O x).isEmpty) ∧ WideUp M O (bitsTo O x) v ∧ Below w.heap.size w wr) (fun _ _ i _ => n - (intOf i).toNat)
  case atStart => exact ⟨0, 0, Nat.zero_le _, rfl, rfl, rfl, WideUp.nil, Below.refl _ _⟩
  case round =>
    obtain ⟨x, v, hx, rfl, rfl, rfl, hup, hb⟩ := hrel
    have c1 := (HD.out.below hb).count
    have HUp := Lib.hid hup
    have HB := Lib.hid hb
    clear hup hb
    by_cases hxn : x < n
    · have hxi : (x : Int) < (n : Int) := by omega
      have ex := IntWalk.i64_in ((x : Int) + 1) (by omega)
      have hin := in_any wr on hon (x : Int)
      rw [inSet_nat (by omega), HOb.out x hxn] at hin
      rcases hbit : O.testBit x with _ | _
      · rw [hbit] at hin
        have hto := bitsTo_no hbit
        have HTo := Lib.hid hto
        clear hto hbit
        go_wp2_with (go_at_call 19; refine hin.mono ?_; rintro e w3 ⟨rfl, hw⟩; subst w3)
        go_roundw
        case rel => exact ⟨x + 1, v, by omega, by go_num, rfl, by rw [HTo.out], by rw [HTo.out]; exact HUp.out, HB.out⟩
        case measure => simp [intOf]; omega
      · rw [hbit] at hin
        have hto := bitsTo_yes hbit
        have HTo := Lib.hid hto
        have HBit := Lib.hid hbit
        have hhops := dhops_any wr gm n M (HD.out.below HB.out) HN.out HL.out hn1 h64 (x : Int) on hon
        clear hto hbit
        go_wp2_with (first
          | (go_at_call 19; refine hin.mono ?_; rintro e w3 ⟨rfl, hw⟩; subst w3)
          | (go_at_call 22; refine hhops.mono ?_; rintro e w5 ⟨b, H, rfl, hbb, hrow, hlen, hH, hb5⟩))
        have hHops : IsHops M on x H := by
          rcases hH with ⟨_, h1⟩ | ⟨h1, _⟩
          · rwa [Int.toNat_natCast] at h1
          · rw [HL.out, inB_nat] at h1
            simp [hxn] at h1
        have HRow := Lib.hid hrow
        have HLen := Lib.hid hlen
        have HHops := Lib.hid hHops
        have HB5 := Lib.hid (HB.out.trans (hb5.mono HB.out.size))
        have hd5 := (HD.out.below HB5.out)
        have HD5 := Lib.hid hd5
        clear hrow hlen hH hb5 hHops hd5 hhops hin
        go_loopw [6, 10] (fun m i wr => ∃ (y v' : Nat), y ≤ n ∧ i = .int .i64 y ∧ m = .int .i64 v' ∧ WideUp M O (bitsTo O x) v' ∧ WideTo M O x (bitsTo O y) v' ∧ Below w5.heap.size w5 wr) (fun _ i _ => n - (intOf i).toNat)
        case atStart => exact ⟨0, v, Nat.zero_le _, rfl, rfl, HUp.out, WideTo.nil, Below.refl _ _⟩
        case round =>
          obtain ⟨y, v', hy, rfl, rfl, hup, hto2, hb6⟩ := hrel
          have c2 := (HD5.out.below hb6).count
          by_cases hyn : y < n
          · have hyi : (y : Int) < (n : Int) := by omega
            have ey := IntWalk.i64_in ((y : Int) + 1) (by omega)
            have hiny := in_any wr on hon (y : Int)
            rw [inSet_nat (by omega), HOb.out y hyn] at hiny
            rcases hbity : O.testBit y with _ | _
            · rw [hbity] at hiny
              have HTo2 := Lib.hid (show WideTo M O x (bitsTo O (y + 1)) v' by rw [bitsTo_no hbity]; exact hto2)
              have HUp2 := Lib.hid hup
              have HB6 := Lib.hid hb6
              clear hbity hup hto2 hb6
              go_wp2_with (go_at_call 19; refine hiny.mono ?_; rintro e w3 ⟨rfl, hw⟩; subst w3)
              go_roundw
              case rel => exact ⟨y + 1, v', by omega, by go_num, rfl, HUp2.out, HTo2.out, HB6.out⟩
              case measure => simp [intOf]; omega
            · rw [hbity] at hiny
              have cy : wr.cell? ⟨b, y, none⟩ = some (.int .i64 (H.getD y 0)) := by
                rw [(HRow.out.below hb6 HRow.out.lt).cell]
                simp [ints, List.getD, show y < H.length by rw [HLen.out]; exact hyn]
              rcases HHops.out.2 y (by rw [HL.out]; exact hyn) with ⟨h1, h2⟩ | ⟨e, h1, hf⟩
              · rw [h1] at cy
                have hcut : WideIs M O 0 false := WideIs.cut HBit.out hbity (fun d hr => h2 d ((hreach hxn).1 hr))
                have HCut := Lib.hid hcut
                have HBE := Lib.hid (HB5.out.trans (hb6.mono HB5.out.size))
                clear h1 h2 hcut hup hto2 hb6 hbity
                go_wp2_with (go_at_call 19; refine hiny.mono ?_; rintro e w3 ⟨rfl, hw⟩; subst w3)
                go_ret2
                exact ⟨0, false, rfl, HCut.out, HBE.out⟩
              · rw [h1] at cy
                have hfO : First M O x e y := (hfirst hxn).2 hf
                have d1 : decide ((e : Int) < 0) = false := decide_eq_false (by omega)
                obtain ⟨V, hV⟩ : ∃ V : Nat, (if v' < e then e else v') = V := ⟨_, rfl⟩
                have hmax := max_nat v' e wr
                rw [hV] at hmax
                have HUp2 := Lib.hid (show WideUp M O (bitsTo O x) V by rw [← hV]; exact hup.max HBit.out hbity hfO)
                have HTo2 := Lib.hid (show WideTo M O x (bitsTo O (y + 1)) V by rw [← hV, bitsTo_yes hbity]; exact hto2.snoc hfO)
                have HB6 := Lib.hid hb6
                clear h1 hf hfO hV hup hto2 hb6 hbity
                go_wp2_with (go_at_call 19; refine hiny.mono ?_; rintro e w3 ⟨rfl, hw⟩; subst w3)
                go_roundw
                case rel => exact ⟨y + 1, V, by omega, by go_num, rfl, HUp2.out, HTo2.out, HB6.out⟩
                case measure => simp [intOf]; omega
          · have hyn' : y = n := by omega
            have hall : WideTo M O x (bitsOf O) v' := by
              rw [hyn', bitsTo_done h64 HOn.out] at hto2
              exact hto2
            have HUp3 := Lib.hid (hup.snoc hall hOfit)
            have HBE := Lib.hid (HB5.out.trans (hb6.mono HB5.out.size))
            clear hall hup hto2 hb6 hyn'
            go_wp2
            go_roundw
            case rel => exact ⟨x + 1, v', by omega, by go_num, rfl, by rw [HTo.out]; simp, by rw [HTo.out]; exact HUp3.out, HBE.out⟩
            case measure => simp [intOf]; omega
    · have hxn' : x = n := by omega
      have hdone : WideIs M O (v : Int) (!(bitsTo O x).isEmpty) := by
        have h1 := HUp.out
        rw [hxn', bitsTo_done h64 HOn.out] at h1 ⊢
        have h2 := h1.done hOfit
        have h3 : (!(bitsOf O).isEmpty) = decide (O ≠ 0) := by
          by_cases h0 : O = 0
          · subst h0
            simp [bits_zero]
          · rw [bits_step h0 hOfit]
            simp [h0]
        rw [h3]
        exact h2
      have HDone := Lib.hid hdone
      clear hdone hxn'
      go_wp2
      go_ret2
      exact ⟨_, _, rfl, HDone.out, HB.out⟩
end Go.Proofs.YtfekblikiemogaaDoor

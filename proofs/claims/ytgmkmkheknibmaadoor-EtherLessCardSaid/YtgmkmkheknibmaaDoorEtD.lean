/- The document's Ear. -/
import Derived.Test.YtgmkmkheknibmaaDoorEtB
import Derived.Test.YtgmkmkheknibmaaDoorLdS
import Derived.Test.YtgmkmkheknibmaaDoorLdI
namespace Go.Proofs.YtgmkmkheknibmaaDoor
open Go.RowKit
set_option linter.unusedVariables false
set_option linter.unusedSimpArgs false

def lastOf (l : List Nat) : Int := (l.getLast?.map fun (i : Nat) => (i : Int)).getD (-1)
theorem lastOf_nil : lastOf [] = -1 := rfl
theorem lastOf_snoc (l : List Nat) (i : Nat) : lastOf (l ++ [i]) = i := by simp [lastOf]
theorem one_last (l : List Nat) : oneOf l = if 1 < l.length then -1 else lastOf l := by
  match l with
  | [] => rfl
  | [i] => rfl
  | _ :: _ :: _ => simp [oneOf]
theorem bitsTo_full {x n : Nat} (h : ∀ j, x.testBit j = true → j < n) (h64 : n ≤ 64) : bitsTo x n = bitsOf x := by
  unfold bitsTo bitsOf
  obtain ⟨d, hd⟩ : ∃ d, 64 = n + d := ⟨64 - n, by omega⟩
  rw [hd, List.range_eq_range', List.range_eq_range', ← List.range'_append_1, List.filter_append, (List.filter_eq_nil_iff (l := List.range' (0 + n) d)).2, List.append_nil]
  intro j hj hx
  have := h j hx
  have := (List.mem_range'_1.1 hj).1
  omega
theorem bits_none {x : Nat} (hx : x < 18446744073709551616) : bitsOf x = [] ↔ x = 0 := by
  constructor
  · intro h
    by_cases h0 : x = 0
    · exact h0
    · have := bits_step h0 hx
      rw [h] at this
      cases this
  · intro h
    subst h
    exact bits_zero
/-- What has come of the nodes below k. -/
def EarAcc (C k : Nat) (F : Int) (N : Nat) : Prop := F = lastOf (bitsTo C k) ∧ N = (bitsTo C k).length
theorem EarAcc.no {C k : Nat} {F : Int} {N : Nat} (h : EarAcc C k F N) (hb : C.testBit k = false) : EarAcc C (k + 1) F N := by
  unfold EarAcc
  rw [bitsTo_no hb]
  exact h
theorem EarAcc.yes {C k : Nat} {F : Int} {N : Nat} (h : EarAcc C k F N) (hb : C.testBit k = true) : EarAcc C (k + 1) (k : Int) (N + 1) := by
  unfold EarAcc
  rw [bitsTo_yes hb, lastOf_snoc]
  exact ⟨rfl, by rw [h.2]; simp⟩
theorem EarAcc.le {C k : Nat} {F : Int} {N : Nat} (h : EarAcc C k F N) : N ≤ k := by rw [h.2]; exact bitsTo_len C k
set_option maxRecDepth 100000 in
set_option maxHeartbeats 4000000 in
theorem dear_any (w : World) (gm n : Nat) (M : List Nat) (h : Dk w gm n M) (hf : FitM M) (hN : Net M) (hl : M.length = n) (i : Nat) (hi : i < n) (send awake : Nat) (hs : send < 18446744073709551616) (ha : awake < 18446744073709551616) (A : Option Addr) (nl c : Nat) (zs : List Int) (hz : IntRow w .u64 A nl c zs) :
    Calls Tryd.prog 10 #[.pointer (some ⟨gm, 0, none⟩), .int .i64 i, .int .u64 send, .int .u64 awake, .slice A nl c] w fun e w' => e = .returned (.tuple #[.int .i64 (earV M send awake zs i).1, .int .i64 (earV M send awake zs i).2]) ∧ w' = w := by
  have h64 : n ≤ 64 := by rw [← hl]; exact hf.1
  have hX := hf.2 i
  obtain ⟨C, hC⟩ : ∃ C, M.getD i 0 &&& send = C := ⟨_, rfl⟩
  have hCf : C < 18446744073709551616 := by rw [← hC]; exact Nat.lt_of_le_of_lt Nat.and_le_left hX
  have hbit : ∀ k, C.testBit k = (adj M i k && send.testBit k) := fun k => by rw [← hC, Nat.testBit_and]; rfl
  have hCn : ∀ j, C.testBit j = true → j < n := fun j hj => by
    rw [hbit] at hj
    simp only [Bool.and_eq_true] at hj
    rw [← hl]
    exact hN.lt _ _ hj.1
  have hfull := bitsTo_full hCn h64
  have c0 := h.count
  have hin := fun (k : Nat) (hk : k < 64) => by
    have := in_any w send hs (k : Int)
    rw [inSet_nat hk] at this
    exact this
  have hia := by
    have := in_any w awake ha (i : Int)
    rw [inSet_nat (by omega)] at this
    exact this
  have hisd := hin i (by omega)
  have hat := fun (k : Nat) (hk : k < 64) => h.at (i := i) (k := k) (by omega) hk
  have hii : (i : Int) < 64 := by omega
  have hi0 : (0 : Int) ≤ (i : Int) := Int.natCast_nonneg _
  have HFull := Lib.hid hfull
  have HBit := Lib.hid hbit
  have HZ := Lib.hid hz
  clear h hfull hbit hz hX
  go_enter Tryd.func10, Tryd.ntmps10
  go_wp2
  go_loopw [12, 13, 14] (fun a b i wr => ∃ (k : Nat) (F : Int) (N : Nat), k ≤ n ∧ a = .int .i64 F ∧ b = .int .i64 N ∧ i = .int .i64 k ∧ EarAcc C k F N ∧ wr = w) (fun _ _ i _ => n - (intOf i).toNat)
  case atStart => exact ⟨0, _, 0, Nat.zero_le _, rfl, rfl, rfl, ⟨rfl, rfl⟩, rfl⟩
  case round =>
    obtain ⟨k, F, N, hk, rfl, rfl, rfl, hacc, rfl⟩ := hrel
    by_cases hlt : k < n
    · have hk64 : k < 64 := by omega
      have hki : (k : Int) < 64 := by omega
      have hkn : (k : Int) < (n : Int) := by omega
      have ck := hat k hk64
      have hink := hin k hk64
      have hlen := hacc.le
      have ew := IntWalk.i64_in ((k : Int) + 1) (by omega)
      have ew2 := IntWalk.i64_in ((N : Int) + 1) (by omega)
      have hb := HBit.out k
      rcases ha1 : adj M i k with _ | _
      · rw [ha1] at ck hb
        rw [Bool.false_and] at hb
        have HNx := Lib.hid (hacc.no hb)
        clear hacc hb ha1 hat hin
        go_wp2
        go_roundw
        case rel => exact ⟨k + 1, F, N, by omega, rfl, rfl, by go_num, HNx.out, trivial⟩
        case measure => simp [intOf]; omega
      · rw [ha1] at ck hb
        rw [Bool.true_and] at hb
        rcases hs1 : send.testBit k with _ | _
        · rw [hs1] at hink hb
          have HNx := Lib.hid (hacc.no hb)
          clear hacc hb ha1 hs1 hat hin
          go_wp2_with ((go_at_call 11; (with_reducible refine hink.mono ?_); rintro e w' ⟨rfl, hw⟩; subst w'))
          go_roundw
          case rel => exact ⟨k + 1, F, N, by omega, rfl, rfl, by go_num, HNx.out, trivial⟩
          case measure => simp [intOf]; omega
        · rw [hs1] at hink hb
          have HNx := Lib.hid (hacc.yes hb)
          clear hacc hb ha1 hs1 hat hin
          go_wp2_with ((go_at_call 11; (with_reducible refine hink.mono ?_); rintro e w' ⟨rfl, hw⟩; subst w'))
          go_roundw
          case rel => exact ⟨k + 1, k, N + 1, by omega, by go_num, by go_num, by go_num, HNx.out, trivial⟩
          case measure => simp [intOf]; omega
    · have hkn : k = n := by omega
      subst hkn
      unfold EarAcc at hacc
      rw [HFull.out] at hacc
      obtain ⟨hF, hN1⟩ := hacc
      have hone := one_last (bitsOf C)
      rw [← hN1, ← hF] at hone
      have hnone := bits_none hCf
      have eV : earV M send awake zs i = (onlyV C, if C = 0 then 0 else if send.testBit i then 2 else if awake.testBit i = false then 3 else if onlyV C < 0 then 4 else if lostB zs i (onlyV C) then 5 else 1) := by unfold earV; rw [hC]
      rw [show onlyV C = if 1 < N then -1 else F from hone] at eV
      by_cases h0 : N = 0
      · subst h0
        have hC0 : C = 0 := hnone.1 (List.eq_nil_of_length_eq_zero hN1.symm)
        rw [if_pos hC0, if_neg (by decide), hF, hnone.2 hC0, lastOf_nil] at eV
        have HV := Lib.hid eV
        clear eV hnone hone hF hN1 hC0
        go_wp2
        go_ret2
        rw [HV.out]
        exact ⟨rfl, rfl⟩
      · have hC0 : ¬ C = 0 := fun e => h0 (by rw [hN1, hnone.2 e]; rfl)
        rw [if_neg hC0] at eV
        have hz0 : ((N : Int) == 0) = false := by simp; omega
        have hlast : 1 < N ∨ N = 1 := by omega
        rcases hsb : send.testBit i with _ | _
        rotate_left
        · rw [hsb] at hisd eV
          rw [if_pos rfl] at eV
          clear hat hin hnone hone hF hN1 hC0
          by_cases h1 : 1 < N
          · have d1 : decide (1 < (N : Int)) = true := decide_eq_true (by omega)
            rw [if_pos h1] at eV
            have HV := Lib.hid eV
            clear eV
            go_wp2_with (first | (go_at_call 11; (with_reducible refine hisd.mono ?_); rintro e w' ⟨rfl, hw⟩; subst w'))
            go_ret2
            rw [HV.out]
            exact ⟨rfl, rfl⟩
          · have d1 : decide (1 < (N : Int)) = false := decide_eq_false (by omega)
            rw [if_neg h1] at eV
            have HV := Lib.hid eV
            clear eV
            go_wp2_with (first | (go_at_call 11; (with_reducible refine hisd.mono ?_); rintro e w' ⟨rfl, hw⟩; subst w'))
            go_ret2
            rw [HV.out]
            exact ⟨rfl, rfl⟩
        · rw [hsb] at hisd eV
          rw [if_neg (show ¬ (false = true) by decide)] at eV
          rcases hab : awake.testBit i with _ | _
          · rw [hab] at hia eV
            rw [if_pos rfl] at eV
            clear hat hin hnone hone hF hN1 hC0
            by_cases h1 : 1 < N
            · have d1 : decide (1 < (N : Int)) = true := decide_eq_true (by omega)
              rw [if_pos h1] at eV
              have HV := Lib.hid eV
              clear eV
              go_wp2_with (first | (go_at_call 11; (with_reducible refine hisd.mono ?_); rintro e w' ⟨rfl, hw⟩; subst w') | (go_at_call 11; (with_reducible refine hia.mono ?_); rintro e w' ⟨rfl, hw⟩; subst w'))
              go_ret2
              rw [HV.out]
              exact ⟨rfl, rfl⟩
            · have d1 : decide (1 < (N : Int)) = false := decide_eq_false (by omega)
              rw [if_neg h1] at eV
              have HV := Lib.hid eV
              clear eV
              go_wp2_with (first | (go_at_call 11; (with_reducible refine hisd.mono ?_); rintro e w' ⟨rfl, hw⟩; subst w') | (go_at_call 11; (with_reducible refine hia.mono ?_); rintro e w' ⟨rfl, hw⟩; subst w'))
              go_ret2
              rw [HV.out]
              exact ⟨rfl, rfl⟩
          · rw [hab] at hia eV
            rw [if_neg (show ¬ (true = false) by decide)] at eV
            by_cases h1 : 1 < N
            · have d1 : decide (1 < (N : Int)) = true := decide_eq_true (by omega)
              rw [if_pos h1, if_pos (show (-1 : Int) < 0 by decide)] at eV
              clear hat hin hnone hone hF hN1 hC0
              have HV := Lib.hid eV
              clear eV
              go_wp2_with (first | (go_at_call 11; (with_reducible refine hisd.mono ?_); rintro e w' ⟨rfl, hw⟩; subst w') | (go_at_call 11; (with_reducible refine hia.mono ?_); rintro e w' ⟨rfl, hw⟩; subst w'))
              go_ret2
              rw [HV.out]
              exact ⟨rfl, rfl⟩
            · have d1 : decide (1 < (N : Int)) = false := decide_eq_false (by omega)
              rw [if_neg h1] at eV
              have hlen1 : (bitsOf C).length = 1 := by omega
              obtain ⟨J, hJ⟩ := List.length_eq_one_iff.1 hlen1
              rw [hJ] at hF
              have hFJ : F = (J : Int) := hF
              have hJ64 : J < 64 := (mem_bits.1 (show J ∈ bitsOf C by rw [hJ]; simp)).1
              subst hFJ
              rw [if_neg (show ¬ (J : Int) < 0 by omega)] at eV
              have hln := HZ.out.len_eq
              clear hat hnone hone hF hN1 hC0 hJ hlen1
              by_cases hkl : i < nl
              · have dl : decide ((i : Int) < (nl : Int)) = true := decide_eq_true (by omega)
                have hki2 : (i : Int) < (nl : Int) := by omega
                obtain ⟨b2, off2, rfl, hb2, hc2⟩ := HZ.out.cell (by omega)
                have hcw := hc2 i hkl
                have hwz := HZ.out.wf (zs.getD i 0) (by
                  rw [List.getD_eq_getElem?_getD, List.getElem?_eq_getElem (by omega)]
                  exact List.getElem_mem _)
                have hZ0 := bounds_u64 hwz
                have hlb : lostB zs i (J : Int) = (zs.getD i 0).toNat.testBit J := by
                  unfold lostB
                  rw [hln]
                  simp [hkl]
                rw [hlb] at eV
                obtain ⟨Z, hZ⟩ : ∃ Z : Nat, zs.getD i 0 = (Z : Int) := ⟨(zs.getD i 0).toNat, by omega⟩
                have hZf : Z < 18446744073709551616 := by omega
                rw [hZ, Int.toNat_natCast] at eV
                rw [hZ] at hcw
                have hinl := by
                  have := in_any wr Z hZf (J : Int)
                  rw [inSet_nat hJ64] at this
                  exact this
                clear hc2 hZ hwz hZ0 hlb hin
                rcases hlo : Z.testBit J with _ | _
                · rw [hlo] at hinl eV
                  rw [if_neg (show ¬ (false = true) by decide)] at eV
                  have HV := Lib.hid eV
                  clear eV
                  go_wp2_with (first | (go_at_call 11; (with_reducible refine hisd.mono ?_); rintro e w' ⟨rfl, hw⟩; subst w') | (go_at_call 11; (with_reducible refine hia.mono ?_); rintro e w' ⟨rfl, hw⟩; subst w') | (go_at_call 11; (with_reducible refine hinl.mono ?_); rintro e w' ⟨rfl, hw⟩; subst w'))
                  go_ret2
                  rw [HV.out]
                  exact ⟨rfl, rfl⟩
                · rw [hlo] at hinl eV
                  rw [if_pos rfl] at eV
                  have HV := Lib.hid eV
                  clear eV
                  go_wp2_with (first | (go_at_call 11; (with_reducible refine hisd.mono ?_); rintro e w' ⟨rfl, hw⟩; subst w') | (go_at_call 11; (with_reducible refine hia.mono ?_); rintro e w' ⟨rfl, hw⟩; subst w') | (go_at_call 11; (with_reducible refine hinl.mono ?_); rintro e w' ⟨rfl, hw⟩; subst w'))
                  go_ret2
                  rw [HV.out]
                  exact ⟨rfl, rfl⟩
              · have dl : decide ((i : Int) < (nl : Int)) = false := decide_eq_false (by omega)
                have hlb : lostB zs i (J : Int) = false := by
                  unfold lostB
                  simp; omega
                rw [hlb, if_neg (by decide)] at eV
                clear hin
                have HV := Lib.hid eV
                clear eV
                go_wp2_with (first | (go_at_call 11; (with_reducible refine hisd.mono ?_); rintro e w' ⟨rfl, hw⟩; subst w') | (go_at_call 11; (with_reducible refine hia.mono ?_); rintro e w' ⟨rfl, hw⟩; subst w'))
                go_ret2
                rw [HV.out]
                exact ⟨rfl, rfl⟩
end Go.Proofs.YtgmkmkheknibmaaDoor

/- Package civil: digits, and a date's text; the document's own. -/
import Derived.Test.YtcknllkbeadmlaaDoorCvC
import Derived.Test.YtcknllkbeadmlaaDoorCvSh
import Derived.Test.YtcknllkbeadmlaaDoorIntRows
import Derived.Lib.AppendIntMem
import Derived.Lib.SmallJoins
import Derived.Laws.Concat
namespace Go.Proofs.YtcknllkbeadmlaaDoor
open Go.RowKit
set_option linter.unusedSimpArgs false
set_option linter.unusedVariables false

/-- The last k digits of a number, the first ahead. -/
def digs : Nat → Nat → List UInt8
  | 0, _ => []
  | k + 1, n => Lib.dg n k :: digs k n
theorem digs_len : ∀ k n, (digs k n).length = k
  | 0, _ => rfl
  | k + 1, n => by rw [digs, List.length_cons, digs_len k n]
theorem digs_range (n : Nat) : ∀ k, digs k n = (List.range k).map fun t => Lib.dg n (k - 1 - t)
  | 0 => rfl
  | k + 1 => by
    rw [digs, digs_range n k, List.range_succ_eq_map, List.map_cons, List.map_map]
    congr 1
    refine List.map_congr_left fun t _ => ?_
    show _ = Lib.dg n (k + 1 - 1 - (t + 1))
    congr 1
    omega
theorem digs_dec (u : Nat) : ∀ j, digs (Lib.nDigits u + j) u = List.replicate j 48 ++ Lib.decDigits u
  | 0 => by rw [Nat.add_zero, digs_range, Lib.decDigits_eq]; rfl
  | j + 1 => by
    rw [← Nat.add_assoc, digs, digs_dec u j, List.replicate_succ, List.cons_append]
    congr 1
    unfold Lib.dg
    have h1 := Lib.lt_pow_nDigits u
    have h2 : 10 ^ Lib.nDigits u ≤ 10 ^ (Lib.nDigits u + j) := Nat.pow_le_pow_right (by decide) (Nat.le_add_right _ _)
    rw [Nat.div_eq_of_lt (by omega)]
    rfl
theorem nDigits_le {u k : Nat} (h : u < 10 ^ k) (hk : 1 ≤ k) : Lib.nDigits u ≤ k := by
  refine Classical.byContradiction fun hc => ?_
  have hlow : ∀ v, ¬ v < 10 → 10 ^ (Lib.nDigits v - 1) ≤ v := by
    intro v
    induction v using Nat.strongRecOn with
    | _ v ih =>
      intro hv
      rw [Lib.nDigits_big hv, Nat.add_sub_cancel]
      by_cases h2 : v / 10 < 10
      · rw [Lib.nDigits_small h2]
        omega
      · have h3 := ih (v / 10) (by omega) h2
        have h4 := Lib.nDigits_pos (v / 10)
        obtain ⟨q, hq⟩ : ∃ q, Lib.nDigits (v / 10) = q + 1 := ⟨Lib.nDigits (v / 10) - 1, by omega⟩
        rw [hq] at h3 ⊢
        rw [Nat.add_sub_cancel] at h3
        rw [Nat.pow_succ]
        omega
  by_cases h10 : u < 10
  · rw [Lib.nDigits_small h10] at hc
    omega
  · have h1 := hlow u h10
    have h2 : 10 ^ k ≤ 10 ^ (Lib.nDigits u - 1) := Nat.pow_le_pow_right (by decide) (by omega)
    omega
def digB (k n : Nat) : ByteArray := ⟨(digs k n).toArray⟩
def decB (n : Nat) : ByteArray := ⟨(Lib.decDigits n).toArray⟩
def zerB (c : Nat) : ByteArray := ⟨(List.replicate c (48 : UInt8)).toArray⟩
theorem digB_size (k n : Nat) : (digB k n).size = k := by simp [digB, ByteArray.size, digs_len]
theorem decB_size (n : Nat) : (decB n).size = Lib.nDigits n := by simp [decB, ByteArray.size, Lib.decDigits_length]
theorem zerB_size (c : Nat) : (zerB c).size = c := by simp [zerB, ByteArray.size]
theorem zer_dec {k n : Nat} (h : Lib.nDigits n ≤ k) : zerB (k - Lib.nDigits n) ++ decB n = digB k n := by
  unfold zerB decB digB
  rw [ByteArray.mk_append_mk, ← digs_dec, Nat.add_sub_cancel' h]

/-- The table of the powers of ten, as the library lays it. -/
def Tab (w : World) : Prop := Lib.TabIs Tryd.prog w "internal/strconv.uint64pow10" .u64 Lib.pow10Tab
theorem gPow : Tryd.prog.globalNamed "internal/strconv.uint64pow10" = some 0 := by kernel_rfl
theorem Tab.below {w w' : World} (h : Tab w) (hb : Below w.heap.size w w') : Tab w' := Joins.tab_stays gPow h hb (Nat.le_refl _)
theorem Tab.drewN {w : World} (h : Tab w) (n : Nat) : Tab (w.drewN n) := h.below (below_drewN (Below.refl _ _) n)
theorem Tab.drew {w : World} (h : Tab w) : Tab w.drew := h.below (Below.refl _ _).drew

theorem itoa_any (n : Nat) (w : World) (h : Tab w) (hn : n ≤ 1000000) :
    Calls Tryd.prog 57 #[.int .i64 (n : Int)] w fun e w' => e = .returned (.string (decB n)) ∧ Below w.heap.size w w' := by
  refine (Tryd.strconv_Itoa (n : Int) (by omega) (by omega) w h).mono ?_
  rintro e w' ⟨rfl, k, os, rfl⟩
  refine ⟨?_, Lib.below_grow _ w (Nat.le_refl _) k os⟩
  rw [Lib.itoa_nonneg]
  rfl
theorem zeros_any (c : Nat) (w : World) (hc : c ≤ 1000000) :
    Calls Tryd.prog 66 #[.string ⟨#[48]⟩, .int .i64 (c : Int)] w fun e w' => e = .returned (.string (zerB c)) ∧ Below w.heap.size w w' := by
  refine (Tryd.strings_Repeat ⟨#[48]⟩ c w (by omega) (by show 1 * c ≤ _; omega)).mono ?_
  rintro e w' ⟨rfl, hb⟩
  refine ⟨?_, hb⟩
  have e1 : Lib.repeatL (List.replicate 1 (48 : UInt8)) c = List.replicate c 48 := by rw [Lib.repeatL_replicate, Nat.mul_one]
  show Ending.returned (.string ⟨(Lib.repeatL (List.replicate 1 (48 : UInt8)) c).toArray⟩) = _
  rw [e1]
  rfl
theorem digits_any (n k : Nat) (N K : Int) (w : World) (hN : N = (n : Int)) (hK : K = (k : Int)) (h : Tab w) (hk1 : 1 ≤ k) (hk : k ≤ 4) (hn : n < 10 ^ k) :
    Calls Tryd.prog 56 #[.int .i64 N, .int .i64 K] w fun e w' => e = .returned (.string (digB k n)) ∧ Below w.heap.size w w' := by
  subst hN
  subst hK
  have hle := nDigits_le hn hk1
  have h4 : n < 10000 := Nat.lt_of_lt_of_le hn (Nat.le_trans (Nat.pow_le_pow_right (by decide) hk) (by decide))
  have hzd := zer_dec hle
  have sd := decB_size n
  have sz := zerB_size (k - Lib.nDigits n)
  have HZ := Lib.hid hzd
  obtain ⟨q, hq⟩ : ∃ q, Lib.nDigits n = q := ⟨_, rfl⟩
  rw [hq] at hle sd sz HZ
  have e1 := IntWalk.i64_in ((k : Int) - (q : Int)) (by omega)
  have e2 : (k : Int) - (q : Int) = ((k - q : Nat) : Int) := by omega
  have e3 : IntKind.i64.wrap ((k : Int) - (q : Int)) = ((k - q : Nat) : Int) := by rw [e1, e2]
  have s1 : k - q + q = k := by omega
  have s2 : ¬ 9223372036854775807 < k := by omega
  clear hzd hq e1 e2
  go_enter Tryd.func56, Tryd.ntmps56
  go_wp2_with (first
    | (go_at_call 57; refine (itoa_any n _ h (by omega)).mono ?_; rintro e w1 ⟨rfl, hb1⟩)
    | (go_at_call 66; refine (zeros_any (k - q) _ (by omega)).mono ?_; rintro e w2 ⟨rfl, hb2⟩))
  rw [HZ.out]
  go_ret
  exact ⟨rfl, hb1.trans (hb2.mono hb1.size)⟩
theorem two_step (N k : Nat) : strOfNums [48 + ((N / 10 ^ k : Nat) : Int) % 10] ++ digB k N = digB (k + 1) N := by
  have e : strOfNums [48 + ((N / 10 ^ k : Nat) : Int) % 10] = ⟨[Lib.dg N k].toArray⟩ := by
    unfold strOfNums Lib.dg
    have : (48 + ((N / 10 ^ k : Nat) : Int) % 10).toNat = 48 + N / 10 ^ k % 10 := by omega
    simp only [List.map_cons, List.map_nil, this]
  rw [e]
  unfold digB
  rw [ByteArray.mk_append_mk]
  rfl
theorem two_any (n k : Nat) (N K : Int) (w : World) (hN : N = (n : Int)) (hK : K = (k : Int)) (hk : k ≤ 4) (hn : n ≤ 1000000) :
    Calls Tryd.prog 58 #[.int .i64 N, .int .i64 K] w fun e w' => e = .returned (.string (digB k n)) ∧ Below w.heap.size w w' := by
  subst hN
  subst hK
  go_enter Tryd.func58, Tryd.ntmps58
  go_wp2
  go_loopw [0, 5, 6] (fun v s i wr => ∃ j : Nat, j ≤ k ∧ v = .int .i64 ((n / 10 ^ j : Nat) : Int) ∧ s = .string (digB j n) ∧ i = .int .i64 (j : Int) ∧ Below w.heap.size w wr) (fun _ _ i _ => k - (intOf i).toNat)
  case atStart => exact ⟨0, Nat.zero_le _, by simp, rfl, rfl, Below.refl _ _⟩
  case round =>
    obtain ⟨j, hj, rfl, rfl, rfl, hb⟩ := hrel
    have HB := Lib.hid hb
    by_cases hlt : j < k
    · have hts := two_step n j
      have hsz := digB_size j n
      obtain ⟨S, hS⟩ : ∃ S, digB j n = S := ⟨_, rfl⟩
      have hdv : n / 10 ^ (j + 1) = n / 10 ^ j / 10 := by rw [Nat.pow_succ, Nat.div_div_eq_div_mul]
      have hv0 : n / 10 ^ j ≤ n := Nat.div_le_self _ _
      obtain ⟨v, hv⟩ : ∃ v, n / 10 ^ j = v := ⟨_, rfl⟩
      rw [hv] at hts hv0 hdv
      rw [hS] at hts hsz
      have e1 : (v : Int).tmod 10 = (v : Int) % 10 := tmod_of (by omega) 10
      have e2 : (v : Int).tdiv 10 = (v : Int) / 10 := tdiv_of (by omega) 10
      have e3 := IntWalk.i64_in ((v : Int) / 10) (by omega)
      have e4 := IntWalk.i64_in (48 + (v : Int) % 10) (by omega)
      have e5 : IntKind.u8.wrap (48 + (v : Int) % 10) = 48 + (v : Int) % 10 := by rw [wrap_u8]; omega
      have e6 := IntWalk.i64_in ((j : Int) + 1) (by omega)
      obtain ⟨c, hc⟩ : ∃ c, 48 + (v : Int) % 10 = c := ⟨_, rfl⟩
      have hcb : 48 ≤ c ∧ c ≤ 57 := by omega
      rw [hc] at hts e4 e5
      have hcv := run_convert_row (P := Tryd.prog) (w := wr.alloc (.cells #[.int .u8 c] 5)) 93 5 9 Tryd.underlying93 Tryd.underlying5 Tryd.underlying9 (some ⟨wr.heap.size, 0, none⟩) 1 1 [c]
        (IntRow.laid wr 5 .u8 [c] 1 rfl (by unfold maxLen; omega) (by intro x hx; simp at hx; subst hx; exact WalkArith.wf_u8 (by omega)))
      have hcs : (strOfNums [c]).size = 1 := rfl
      obtain ⟨Z, hZ⟩ : ∃ Z, strOfNums [c] = Z := ⟨_, rfl⟩
      rw [hZ] at hts hcv hcs
      have s2 : ¬ 9223372036854775807 < 1 + j := by omega
      have HT := Lib.hid hts
      have HD := Lib.hid hdv
      have HBB := Lib.hid (hb.alloc hb.size (.cells #[.int .u8 c] 5))
      simp only [hv, hS]
      clear hts hdv hv hS hZ hb
      go_wp2
      go_roundw
      case rel => exact ⟨j + 1, by omega, by rw [HD.out]; rfl, by rw [HT.out], by go_num, HBB.out⟩
      case measure => simp [intOf]; omega
    · have hjk : j = k := by omega
      have HJ := Lib.hid hjk
      clear hjk
      go_wp2
      go_ret
      exact ⟨by have := HJ.out; subst this; rfl, HB.out⟩
/-- A date's text. -/
def textB (y m d : Int) : ByteArray := digB 4 y.toNat ++ ⟨#[45]⟩ ++ digB 2 m.toNat ++ ⟨#[45]⟩ ++ digB 2 d.toNat
end Go.Proofs.YtcknllkbeadmlaaDoor

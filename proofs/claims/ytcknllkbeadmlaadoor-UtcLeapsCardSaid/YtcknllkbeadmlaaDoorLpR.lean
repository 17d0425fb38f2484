/- Package leap: the document's Ahead, Step. -/
import Derived.Test.YtcknllkbeadmlaaDoorLpI
import Derived.Test.YtcknllkbeadmlaaDoorLpJ
namespace Go.Proofs.YtcknllkbeadmlaaDoor
open Go.RowKit Go.Shelf
set_option linter.unusedVariables false
set_option linter.unusedSimpArgs false
attribute [local go_sem] Oper.semAt_some

theorem aheadL_far {L : List (Int × Int)} {d : Int} (h : ∀ e ∈ L, d ≤ e.1) (n : Int) : aheadL n L d = n := by
  induction L generalizing n with
  | nil => rfl
  | cons e L ih =>
    have h0 := h e (List.mem_cons_self ..)
    rw [aheadL_cons, if_neg (by omega)]
    exact ih (fun x hx => h x (List.mem_cons_of_mem _ hx)) n
/-- From one day to the next TAI goes ahead by the day's step. -/
theorem aheadL_next : ∀ (L : List (Int × Int)) (n d : Int), (L.Pairwise fun a b => a.1 < b.1) → aheadL n L (d + 1) = aheadL n L d + stepL L d
  | [], n, d, _ => by simp [aheadL, stepL]
  | e :: L, n, d, h => by
    obtain ⟨h1, h2⟩ := List.pairwise_cons.1 h
    rw [aheadL_cons, aheadL_cons, stepL_cons]
    by_cases k1 : e.1 < d
    · rw [if_pos (show e.1 < d + 1 by omega), if_pos k1, if_neg (show ¬ e.1 = d by omega)]
      exact aheadL_next L _ d h2
    · by_cases k2 : e.1 = d
      · rw [if_pos (show e.1 < d + 1 by omega), if_neg k1, if_pos k2, aheadL_far (fun x hx => by have := h1 x hx; omega), aheadL_far (fun x hx => by have := h1 x hx; omega)]
      · rw [if_neg (show ¬ e.1 < d + 1 by omega), if_neg k1, if_neg k2]
        exact aheadL_next L n d h2
theorem stepL_mem {L : List (Int × Int)} {d : Int} (h : Ones L) : stepL L d = 0 ∨ stepL L d = 1 ∨ stepL L d = -1 := by
  unfold stepL
  split
  · rename_i e he
    exact .inr (h e (List.mem_of_find?_eq_some he))
  · exact .inl rfl
/-- A table as the document has it: its own copy, boxed. -/
def tbCells (st ah en : Int) (A : Option Addr) (n c : Nat) : Array Value := #[.int .i64 st, .int .i64 ah, .int .i64 en, .slice A n c]
set_option maxHeartbeats 2000000 in
theorem rstep_any (w : World) (st ah en : Int) (A : Option Addr) (n c : Nat) (L : List (Int × Int)) (d : Int) (hr : PRow w A n c L) (hn : n ≤ 1000) :
    Calls Tryd.prog 18 #[.agg #[.int .i64 st, .int .i64 ah, .int .i64 en, .slice A n c], .int .i64 d] w fun e w' => e = .returned (.int .i64 (stepL L d)) ∧ Below w.heap.size w w' := by
  have hnl := hr.len
  have hcap := hr.cap_le
  have hmax := hr.max
  unfold maxLen at hmax
  have HX0 := Lib.hid (Box.start w 24 #[.int .i64 st, .int .i64 ah, .int .i64 en, .slice A n c])
  have HR := Lib.hid hr
  have c3 := HX0.out.holds.cell 3
  clear hr
  go_enter Tryd.func18, Tryd.ntmps18
  go_wp2
  obtain ⟨w0, hw0⟩ : ∃ w0, w.alloc (.cells #[.int .i64 st, .int .i64 ah, .int .i64 en, .slice A n c] 24) = w0 := ⟨_, rfl⟩
  simp only [hw0] at HX0 c3 ⊢
  have HX := Lib.hid (show Below w.heap.size w w0 from HX0.out.below)
  clear HX0 hw0 c3
  go_loopw [10] (fun i wr => ∃ k : Nat, k ≤ n ∧ i = .int .i64 (k : Int) ∧ (∀ e ∈ L.take k, ¬ e.1 = d) ∧ Below w.heap.size w wr) (fun i _ => n - (intOf i).toNat)
  case atStart => exact ⟨0, Nat.zero_le _, rfl, by simp, HX.out⟩
  case round =>
    clear HX
    obtain ⟨k, hk, rfl, hno, hb⟩ := hrel
    have HB := Lib.hid hb
    by_cases hlt : k < n
    · obtain ⟨e, he⟩ : ∃ x, L[k]? = some x := ⟨_, List.getElem?_eq_getElem (by omega)⟩
      have hnext : L.take (k + 1) = L.take k ++ [e] := by
        obtain ⟨hk', e'⟩ := List.getElem?_eq_some_iff.1 he
        rw [List.take_succ_eq_append_getElem hk', e']
      obtain ⟨x, y⟩ := e
      obtain ⟨b, off, rfl, hbl, q0, q1⟩ := (HR.out.below HB.out).at he
      have hltI : (k : Int) < (n : Int) := by omega
      have ew := IntWalk.i64_in ((k : Int) + 1) (by omega)
      have HY := Lib.hid (Box.start wr 65 #[.int .i64 x, .int .i64 y])
      have x0 := HY.out.holds.cell 0
      have x1 := HY.out.holds.cell 1
      by_cases hx : x = d
      · subst hx
        have HV := Lib.hid (show stepL L x = y from stepL_hit (pre := L.take k) (by rw [← hnext]; exact List.take_prefix _ _) hno)
        clear he hnext hno hb
        go_wp2
        go_ret
        exact ⟨by rw [HV.out]; rfl, HB.out.trans (HY.out.below.mono HB.out.size)⟩
      · have hxe : (x == d) = false := by simp [hx]
        have HN := Lib.hid (show ∀ e ∈ L.take (k + 1), ¬ e.1 = d from fun e hm => by
          rw [hnext] at hm
          rcases List.mem_append.1 hm with h | h
          · exact hno e h
          · simp at h
            subst h
            exact hx)
        clear he hnext hno hb
        go_wp2
        go_roundw
        case rel => exact ⟨k + 1, by omega, by go_num, HN.out, HB.out.trans (HY.out.below.mono HB.out.size)⟩
        case measure => simp [intOf]; omega
    · have hkn : k = n := by omega
      subst hkn
      have hall : L.take k = L := List.take_of_length_le (by omega)
      rw [hall] at hno
      have HV := Lib.hid (stepL_none hno)
      have hltI : decide ((k : Int) < (k : Int)) = false := decide_eq_false (by omega)
      clear hno hall hb
      go_wp2
      go_ret
      exact ⟨by rw [HV.out]; rfl, HB.out⟩
set_option maxHeartbeats 2000000 in
theorem rlead_any (w : World) (st ah en : Int) (A : Option Addr) (n c : Nat) (L : List (Int × Int)) (d : Int) (hr : PRow w A n c L) (hn : n ≤ 1000) (hah : IntKind.i64.wrap ah = ah) :
    Calls Tryd.prog 34 #[.agg #[.int .i64 st, .int .i64 ah, .int .i64 en, .slice A n c], .int .i64 d] w fun e w' => e = .returned (.int .i64 (IntKind.i64.wrap (aheadL ah L d))) ∧ Below w.heap.size w w' := by
  have hnl := hr.len
  have hcap := hr.cap_le
  have hmax := hr.max
  unfold maxLen at hmax
  have HX0 := Lib.hid (Box.start w 24 #[.int .i64 st, .int .i64 ah, .int .i64 en, .slice A n c])
  have HR := Lib.hid hr
  have c1 := HX0.out.holds.cell 1
  have c3 := HX0.out.holds.cell 3
  clear hr
  go_enter Tryd.func34, Tryd.ntmps34
  go_wp2
  obtain ⟨w0, hw0⟩ : ∃ w0, w.alloc (.cells #[.int .i64 st, .int .i64 ah, .int .i64 en, .slice A n c] 24) = w0 := ⟨_, rfl⟩
  simp only [hw0] at HX0 c1 c3 ⊢
  have HX := Lib.hid (show Below w.heap.size w w0 from HX0.out.below)
  clear HX0 hw0 c1 c3
  go_loopw [5, 13] (fun v i wr => ∃ k : Nat, k ≤ n ∧ i = .int .i64 (k : Int) ∧ v = .int .i64 (IntKind.i64.wrap (aheadL ah (L.take k) d)) ∧ Below w.heap.size w wr) (fun _ i _ => n - (intOf i).toNat)
  case atStart => exact ⟨0, Nat.zero_le _, rfl, by rw [List.take_zero]; show Value.int .i64 ah = .int .i64 (IntKind.i64.wrap ah); rw [hah], HX.out⟩
  case round =>
    clear HX
    obtain ⟨k, hk, rfl, rfl, hb⟩ := hrel
    have HB := Lib.hid hb
    by_cases hlt : k < n
    · obtain ⟨e, he⟩ : ∃ x, L[k]? = some x := ⟨_, List.getElem?_eq_getElem (by omega)⟩
      have hnext : L.take (k + 1) = L.take k ++ [e] := by
        obtain ⟨hk', e'⟩ := List.getElem?_eq_some_iff.1 he
        rw [List.take_succ_eq_append_getElem hk', e']
      obtain ⟨x, y⟩ := e
      obtain ⟨b, off, rfl, hbl, q0, q1⟩ := (HR.out.below HB.out).at he
      have hltI : (k : Int) < (n : Int) := by omega
      have ew := IntWalk.i64_in ((k : Int) + 1) (by omega)
      have HY := Lib.hid (Box.start wr 65 #[.int .i64 x, .int .i64 y])
      have x0 := HY.out.holds.cell 0
      have x1 := HY.out.holds.cell 1
      have hsn := aheadL_snoc ah (L.take k) (x, y) d
      rw [← hnext] at hsn
      dsimp only at hsn
      by_cases hx : x < d
      · rw [if_pos hx] at hsn
        have hw := w64_add (aheadL ah (L.take k) d) y
        rw [← hsn] at hw
        obtain ⟨K, hK⟩ : ∃ M, IntKind.i64.wrap (aheadL ah (L.take k) d) = M := ⟨_, rfl⟩
        obtain ⟨M, hM⟩ : ∃ M, IntKind.i64.wrap (aheadL ah (L.take (k + 1)) d) = M := ⟨_, rfl⟩
        rw [hK, hM] at hw
        simp only [hK]
        have HW := Lib.hid hM
        clear he hnext hb hsn hM hK
        go_wp2
        go_roundw
        case rel => exact ⟨k + 1, by omega, by go_num, by rw [HW.out], HB.out.trans (HY.out.below.mono HB.out.size)⟩
        case measure => simp [intOf]; omega
      · rw [if_neg hx] at hsn
        have hxe : decide (x < d) = false := decide_eq_false hx
        have HW := Lib.hid hsn
        obtain ⟨K, hK⟩ : ∃ M, IntKind.i64.wrap (aheadL ah (L.take k) d) = M := ⟨_, rfl⟩
        have HK := Lib.hid hK
        simp only [hK]
        clear he hnext hb hsn hK
        go_wp2
        go_roundw
        case rel => exact ⟨k + 1, by omega, by go_num, by rw [HW.out, HK.out], HB.out.trans (HY.out.below.mono HB.out.size)⟩
        case measure => simp [intOf]; omega
    · have hkn : k = n := by omega
      subst hkn
      have hall : L.take k = L := List.take_of_length_le (by omega)
      rw [hall]
      have hltI : decide ((k : Int) < (k : Int)) = false := decide_eq_false (by omega)
      obtain ⟨K, hK⟩ : ∃ M, IntKind.i64.wrap (aheadL ah L d) = M := ⟨_, rfl⟩
      have HK := Lib.hid hK
      simp only [hK]
      clear hall hb hK
      go_wp2
      go_ret
      exact ⟨by rw [HK.out]; rfl, HB.out⟩
end Go.Proofs.YtcknllkbeadmlaaDoor

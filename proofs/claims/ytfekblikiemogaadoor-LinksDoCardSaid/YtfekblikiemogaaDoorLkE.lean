/- The library's Repeat, of one number, up to 64 times. -/
import Derived.Test.YtfekblikiemogaaDoorLkD
import Derived.Test.YtfekblikiemogaaDoorRowN
import Derived.Shelf.Bits.Mul64
import Derived.Deep.RegionLaw
namespace Go.Proofs.YtfekblikiemogaaDoor
open Go.RowKit
set_option linter.unusedVariables false

def ints (zs : List Int) : Array Value := (zs.map (Value.int .i64)).toArray
theorem mul64_one (w : World) (n : Nat) (h : n ≤ 64) : Calls Tryd.prog 32 #[.int .u64 1, .int .u64 n] w fun e w' => e = .returned (.tuple #[.int .u64 0, .int .u64 n]) ∧ w' = w := by
  have e1 : bits .and .u64 (n : Int) 4294967295 = (n : Int) := by rw [Mul64.maskN n (by omega), Nat.mod_eq_of_lt (by omega)]
  have e2 : bits .and .u64 1 4294967295 = 1 := by decide +kernel
  have e3 : (n : Int) / 4294967296 = 0 := by omega
  have e4 : IntKind.u64.wrap (n : Int) = n := Mul64.wrapN n (by omega)
  have e5 : bits .and .u64 0 4294967295 = 0 := by decide +kernel
  go_enter Tryd.func32, Tryd.ntmps32
  go_wp2
  go_ret2
  exact ⟨rfl, rfl⟩
theorem mul_one' (w : World) (n : Nat) (h : n ≤ 64) : Calls Tryd.prog 30 #[.int .u64 1, .int .u64 n] w fun e w' => e = .returned (.tuple #[.int .u64 0, .int .u64 n]) ∧ w' = w := by
  have e4 : IntKind.u64.wrap (n : Int) = n := Mul64.wrapN n (by omega)
  go_enter Tryd.func30, Tryd.ntmps30
  go_wp2_with (go_at_call 32; refine (mul64_one _ n h).mono ?_; rintro e w' ⟨rfl, rfl⟩)
  go_ret2
  exact ⟨rfl, rfl⟩
/-- Behind some rounds. -/
def filling (n m : Nat) : List Value := List.replicate m (.int .i64 (-1)) ++ List.replicate (n - m) (.int .i64 0)
theorem filling_len {n m : Nat} (h : m ≤ n) : (filling n m).length = n := by simp [filling]; omega
theorem filling_step {n m k : Nat} (h : m + k ≤ n) : splice (filling n m) m (List.replicate k (.int .i64 (-1))) = filling n (m + k) := by
  unfold splice filling
  rw [List.take_append_of_le_length (by simp), List.take_of_length_le (by simp), List.length_replicate, List.drop_append, List.drop_eq_nil_of_le (by simp), List.nil_append, List.length_replicate, List.drop_replicate, ← List.append_assoc, List.replicate_append_replicate]
  congr 2
  omega
theorem filling_first {n : Nat} (h : 1 ≤ n) : splice (List.replicate n (Value.int .i64 0)) 0 [.int .i64 (-1)] = filling n 1 := by
  have := filling_step (n := n) (m := 0) (k := 1) (by omega)
  simpa [filling] using this
theorem filling_cell {n m j : Nat} (h : j < m) : (filling n m)[j]? = some (.int .i64 (-1)) := by
  unfold filling
  rw [List.getElem?_append_left (by simpa using h)]
  simp [h]
theorem filling_all (n : Nat) : (filling n n).toArray = ints (List.replicate n (-1)) := by
  simp [filling, ints]
theorem make_ints (n : Nat) (hn : n ≤ 64) (w : World) : (Instr.makeSlice 35 (.int .i64 (n : Int)) (.int .i64 (n : Int))).run Tryd.prog w = .ok (.slice (some ⟨w.heap.size, 0, none⟩) n n) (w.alloc (.cells (Array.replicate n (Value.int .i64 0)) 3)) := by
  have := run_make_row' 35 3 (.int .i64 0) 8 Tryd.underlying35 int_info rfl .i64 .i64 n (by omega) (by omega) w
  rw [this, made_is, List.toArray_replicate]
theorem int_size : (Tryd.prog.info? 3).map (·.size) = some 1 := by kernel_rfl
set_option maxRecDepth 100000 in
set_option maxHeartbeats 2000000 in
theorem repeat_any (w : World) (b n : Nat) (hn : n ≤ 64) (h : Holds w b 3 #[.int .i64 (-1)]) : Calls Tryd.prog 27 #[.slice (some ⟨b, 0, none⟩) 1 1, .int .i64 n] w fun e w' =>
    e = .returned (.slice (some ⟨w.heap.size, 0, none⟩) n n) ∧ Holds w' w.heap.size 3 (ints (List.replicate n (-1))) ∧ Below w.heap.size w w' := by
  have hmul := fun w => mul_one' w n hn
  have hmk := make_ints n hn
  have hH0 := Holds.new w 3 (Array.replicate n (Value.int .i64 0))
  obtain ⟨g, hg⟩ : ∃ g, w.heap.size = g := ⟨_, rfl⟩
  obtain ⟨w1, hw1⟩ : ∃ w1, w.alloc (.cells (Array.replicate n (Value.int .i64 0)) 3) = w1 := ⟨_, rfl⟩
  have hb1 : Below w.heap.size w w1 := by rw [← hw1]; exact below_alloc _ _
  have hs1 : b < w.heap.size := h.lt
  have h1 : Holds w1 b 3 #[.int .i64 (-1)] := h.below hb1 hs1
  rw [hw1] at hH0
  have e4 : IntKind.u64.wrap (n : Int) = n := Mul64.wrapN n (by omega)
  have e5 : IntKind.i64.wrap (n : Int) = n := IntWalk.i64_in _ (by omega)
  have d1 : decide ((n : Int) < 0) = false := decide_eq_false (by omega)
  have d2 : decide ((9223372036854775807 : Int) < n) = false := decide_eq_false (by omega)
  obtain ⟨m0, hm0⟩ : ∃ m0, Nat.min 1 n = m0 := ⟨_, rfl⟩
  have hm0n : m0 ≤ n ∧ (1 ≤ n → 1 ≤ m0) := by rw [← hm0]; constructor <;> simp [Nat.min_def] <;> split <;> omega
  have hcp : (Builtin.copy_ #[35, 35] 3 #[.slice (some ⟨g, 0, none⟩) n n, .slice (some ⟨b, 0, none⟩) 1 1]).run Tryd.prog w1 = .ok (.int .i64 (m0 : Int)) (w1.setRow g (filling n m0).toArray) := by
    have := run_copyK w1 35 35 3 3 1 g 0 n n ⟨b, 0, none⟩ 1 1 (filling n 0) 3 (List.replicate m0 (.int .i64 (-1))) Tryd.underlying35 int_size (by rw [← hg]; simpa [filling] using hH0) (by rw [hm0]; simp) (fun j v hv => by
      have hj : j < m0 := by rw [List.getElem?_replicate] at hv; split at hv <;> simp_all
      have : j = 0 := by rw [← hm0] at hj; simp [Nat.min_def] at hj; split at hj <;> omega
      subst this
      rw [List.getElem?_replicate, if_pos hj] at hv
      cases hv
      exact h1.cell 0) (by rw [filling_len (by omega)]; simp; omega) (fun v hv => by rw [List.eq_of_mem_replicate hv]; rfl)
    rw [this, hm0, filling_step (by omega), Nat.zero_add]
    rfl
  have hH1 : Holds (w1.setRow g (filling n m0).toArray) g 3 (filling n m0).toArray := Holds.row (by rw [← hg]; exact hH0) _
  have hb2 : Below w.heap.size w (w1.setRow g (filling n m0).toArray) := hb1.grown (grown_row w1 g _) hb1.size (fun k e => by cases e; omega)
  obtain ⟨w2, hw2⟩ : ∃ w2, w1.setRow g (filling n m0).toArray = w2 := ⟨_, rfl⟩
  rw [hw2] at hcp hH1 hb2
  have H1 := Lib.hid hH1
  have HB := Lib.hid hb2
  clear hH1 hb2 hH0 hb1 h h1 hw2 hm0
  go_enter Tryd.func27, Tryd.ntmps27
  go_wp2_with (first
    | (go_at_call 30; refine (hmul _).mono ?_; rintro e w' ⟨rfl, hw⟩; subst w')
    | (at_builtin; refine wpList_copy_known _ rfl _ _ 35 35 rfl _ _ rfl rfl hcp ?_))
  go_loopw [8] (fun i wr => ∃ m : Nat, m ≤ n ∧ (1 ≤ n → 1 ≤ m) ∧ i = .int .i64 m ∧ Holds wr g 3 (filling n m).toArray ∧ Below w.heap.size w wr) (fun i _ => n - (intOf i).toNat)
  case atStart => exact ⟨m0, hm0n.1, hm0n.2, rfl, H1.out, HB.out⟩
  case round =>
    obtain ⟨m, hmn, hm1, rfl, hH, hb⟩ := hrel
    by_cases hlt : m < n
    · have hm1' := hm1 (by omega)
      obtain ⟨k, hk⟩ : ∃ k, Nat.min m (n - m) = k := ⟨_, rfl⟩
      have hk1 : 1 ≤ k ∧ m + k ≤ n := by rw [← hk]; simp [Nat.min_def]; split <;> omega
      have hkm : k ≤ m := by rw [← hk]; exact Nat.min_le_left _ _
      have hH0 : Holds wr.drew g 3 (filling n m).toArray := hH.drewN 1
      have hcp2 : (Builtin.copy_ #[35, 35] 3 #[.slice (some ⟨g, m, none⟩) (n - m) (n - m), .slice (some ⟨g, 0, none⟩) m n]).run Tryd.prog wr.drew = .ok (.int .i64 (k : Int)) (wr.drew.setRow g (filling n (m + k)).toArray) := by
        have := run_copyK wr.drew 35 35 3 3 1 g m (n - m) (n - m) ⟨g, 0, none⟩ m n (filling n m) 3 (List.replicate k (.int .i64 (-1))) Tryd.underlying35 int_size hH0 (by rw [hk]; simp) (fun j v hv => by
          have hj : j < k := by rw [List.getElem?_replicate] at hv; split at hv <;> simp_all
          rw [List.getElem?_replicate, if_pos hj] at hv
          cases hv
          have := hH0.cell j
          rw [show (⟨g, 0, none⟩ : Addr).add j = ⟨g, j, none⟩ by unfold Addr.add; split <;> simp_all, this]
          simpa using filling_cell (n := n) (show j < m by omega)) (by rw [filling_len (by omega)]; simp; omega) (fun v hv => by rw [List.eq_of_mem_replicate hv]; rfl)
        rw [this, hk, filling_step (by omega)]
        rfl
      have hH2 : Holds (wr.drew.setRow g (filling n (m + k)).toArray) g 3 (filling n (m + k)).toArray := Holds.row hH0 _
      have hb3 : Below w.heap.size w (wr.drew.setRow g (filling n (m + k)).toArray) := (Below.drew hb).grown (grown_row wr.drew g _) hb.size (fun k e => by cases e; omega)
      have ew := IntWalk.i64_in ((m : Int) + k) (by omega)
      have HH2 := Lib.hid hH2
      have HB3 := Lib.hid hb3
      have hnm : ¬ n = m := by omega
      clear hH2 hb3 hH0 hH hb hk
      go_wp2
      go_region_law (refine step_copy_known rfl (.tmp 41) (.tmp 44) 35 35 rfl (.slice (some ⟨g, m, none⟩) (n - m) (n - m)) (.slice (some ⟨g, 0, none⟩) m n) (by simp [Act.eval, Act.put]) (by simp [Act.eval, Act.put]) hcp2 ?_)
      go_wp2
      go_simp
      go_roundw
      case rel => exact ⟨m + k, by omega, fun _ => by omega, by go_num, HH2.out, hg ▸ HB3.out⟩
      case measure => simp [intOf]; omega
    · have hmn' : m = n := by omega
      subst hmn'
      have HH := Lib.hid hH
      have HB2 := Lib.hid hb
      clear hH hb
      go_wp2
      go_ret
      have HH' := HH.out
      rw [filling_all] at HH'
      subst hg
      exact ⟨rfl, HH', HB2.out⟩
end Go.Proofs.YtfekblikiemogaaDoor

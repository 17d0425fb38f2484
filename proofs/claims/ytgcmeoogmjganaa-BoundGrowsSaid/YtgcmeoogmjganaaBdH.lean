/- Package bound: the example that the document tells. -/
import Derived.Test.YtgcmeoogmjganaaBdR
import Derived.Laws.StructEq
namespace Go.Proofs.Ytgcmeoogmjganaa
open Go.RowKit
set_option linter.unusedSimpArgs false
set_option linter.unusedVariables false

theorem alive_yes (w : World) : Calls Try.prog 9 #[] w fun e w' => e = .returned (.bool true) ∧ Below w.heap.size w w' := by
  have e1 : bdTicks 1 0 9 10 1 = 10010 := by decide
  have e2 : bdLag 1 0 9 10 1 = 21 := by decide
  have e3 : bdHop 1 0 9 10 = 203 := by decide
  have e4 : bdGood 1 0 9 10 = true := by decide
  have HB := Lib.hid (Box.start w 23 #[.int .i64 1, .int .i64 0, .int .i64 9, .int .i64 10])
  go_enter Try.func9, Try.ntmps9
  go_wp2_with (first
    | (go_at_call 13; refine (ticks_any 1 0 9 10 1 _).mono ?_; rintro e w2 ⟨rfl, hb⟩; replace HB := Lib.hid (HB.out.next hb); obtain ⟨c0, c1, c2, c3, _⟩ := HB.out.bd4; clear hb)
    | (go_at_call 15; refine (lag_any 1 0 9 10 1 _).mono ?_; rintro e w2 ⟨rfl, hb⟩; replace HB := Lib.hid (HB.out.next hb); obtain ⟨c0, c1, c2, c3, _⟩ := HB.out.bd4; clear hb)
    | (go_at_call 17; refine (hop_any 1 0 9 10 _).mono ?_; rintro e w2 ⟨rfl, hb⟩; replace HB := Lib.hid (HB.out.next hb); obtain ⟨c0, c1, c2, c3, _⟩ := HB.out.bd4; clear hb)
    | (go_at_call 11; refine (bgood_any 1 0 9 10 _).mono ?_; rintro e w2 ⟨rfl, hb⟩; replace HB := Lib.hid (HB.out.next hb); obtain ⟨c0, c1, c2, c3, _⟩ := HB.out.bd4; clear hb))
  go_ret
  exact ⟨rfl, HB.out.below⟩
theorem terms_eq_same (d j t r : Int) (W : World) : (binOp .eql 23 (.agg #[.int .i64 d, .int .i64 j, .int .i64 t, .int .i64 r]) (.agg #[.int .i64 d, .int .i64 j, .int .i64 t, .int .i64 r])).run Try.prog W = .ok (.bool true) W := by
  go_simp
theorem terms_size : (Try.prog.info? 23).map (·.size) = some 4 := by kernel_rfl
theorem bof_any (d j t r i k o n : Int) (w : World) :
    Calls Try.prog 10 #[.agg #[.int .i64 t, .int .i64 i, .int .i64 k, .int .i64 d], .agg #[.int .i64 r, .int .i64 o, .int .i64 n], .int .i64 j] w fun e w' => e = .returned (.agg #[.int .i64 d, .int .i64 j, .int .i64 t, .int .i64 r]) ∧ Below w.heap.size w w' := by
  have H1 := Holds.new w 30 #[.int .i64 t, .int .i64 i, .int .i64 k, .int .i64 d]
  obtain ⟨W1, hW1⟩ : ∃ W1, w.alloc (.cells #[.int .i64 t, .int .i64 i, .int .i64 k, .int .i64 d] 30) = W1 := ⟨_, rfl⟩
  have B1 : Below w.heap.size w W1 := hW1 ▸ below_alloc _ _
  have S1 : W1.heap.size = w.heap.size + 1 := by rw [← hW1, size_alloc]
  rw [hW1] at H1
  have H2 := Holds.new W1 32 #[.int .i64 r, .int .i64 o, .int .i64 n]
  have B2 := below_alloc W1 (.cells #[.int .i64 r, .int .i64 o, .int .i64 n] 32)
  have c0 := H1.cell 0
  have c3 := H1.cell 3
  go_enter Try.func10, Try.ntmps10
  go_wp2
  refine bodyPost_ret (results_cell_row rfl _ _ (w.heap.size + 1 + 1) 23 #[.int .i64 d, .int .i64 j, .int .i64 t, .int .i64 r] (0, 0) _ rfl (by have := heap_alloc_new (W1.alloc (.cells #[.int .i64 r, .int .i64 o, .int .i64 n] 32)) (.cells #[.int .i64 d, .int .i64 j, .int .i64 t, .int .i64 r] 23); rw [size_alloc, S1] at this; exact this) Try.underlying23 rfl terms_size) rfl ?_
  have B3 := B1.alloc B1.size (.cells #[.int .i64 r, .int .i64 o, .int .i64 n] 32)
  exact ⟨rfl, B3.alloc B3.size _⟩

end Go.Proofs.Ytgcmeoogmjganaa

/- A frame with all its fields. (Written by wip/tools/mkframe.py.) -/
import Derived.Test.YtbdlpkkgfhknkaaFrmG
namespace Go.Proofs.Ytbdlpkkgfhknkaa
open Go.RowKit
set_option linter.unusedSimpArgs false
theorem plain_size' : (Try.prog.info? 24).map (·.size) = some 14 := by kernel_rfl
set_option maxRecDepth 100000 in
set_option maxHeartbeats 2000000 in
theorem plain_sync (a0 a1 a2 a3 a4 a5 : Int) (w : World) : Calls Try.prog 17 #[.iface 54 (.agg #[.int .i64 a0, .int .i64 a1, .int .u16 a2, .int .u16 a3, .int .i64 a4, .int .i64 a5])] w (Told (.agg #[.int .i64 1, .int .i64 a0, .int .i64 0, .int .i64 a1, .int .u16 a2, .int .u16 a3, .int .i64 a4, .int .i64 a5, .int .i64 0, .int .i64 0, .int .i64 0, .int .i64 0, .int .i64 0, .int .i64 0]) w) := by
  have t0 := is_sync
  go_enter Try.func17, Try.ntmps17
  go_wp2
  have hg : Holds ((w.alloc (.cells (#[.int .i64 1, .int .i64 a0, .int .i64 0, .int .i64 a1, .int .u16 a2, .int .u16 a3, .int .i64 a4, .int .i64 a5, .int .i64 0, .int .i64 0, .int .i64 0, .int .i64 0, .int .i64 0, .int .i64 0]) 24)).alloc (.cells (#[.int .i64 a0, .int .i64 a1, .int .u16 a2, .int .u16 a3, .int .i64 a4, .int .i64 a5]) 54)) w.heap.size 24 (#[.int .i64 1, .int .i64 a0, .int .i64 0, .int .i64 a1, .int .u16 a2, .int .u16 a3, .int .i64 a4, .int .i64 a5, .int .i64 0, .int .i64 0, .int .i64 0, .int .i64 0, .int .i64 0, .int .i64 0]) := (Holds.new _ _ _).alloc _
  refine bodyPost_ret (results_cell_row rfl _ _ w.heap.size 24 (#[.int .i64 1, .int .i64 a0, .int .i64 0, .int .i64 a1, .int .u16 a2, .int .u16 a3, .int .i64 a4, .int .i64 a5, .int .i64 0, .int .i64 0, .int .i64 0, .int .i64 0, .int .i64 0, .int .i64 0]) (0, 0) _ rfl (by first | exact hg | simpa using hg) Try.underlying24 rfl plain_size') rfl ⟨rfl, ?_⟩
  exact ((Below.refl _ _).alloc (Nat.le_refl _) _).alloc (by simp) _
set_option maxRecDepth 100000 in
set_option maxHeartbeats 2000000 in
theorem plain_find (a0 a1 : Int) (w : World) : Calls Try.prog 17 #[.iface 56 (.agg #[.int .i64 a0, .int .i64 a1])] w (Told (.agg #[.int .i64 2, .int .i64 a0, .int .i64 0, .int .i64 0, .int .u16 0, .int .u16 0, .int .i64 0, .int .i64 0, .int .i64 a1, .int .i64 0, .int .i64 0, .int .i64 0, .int .i64 0, .int .i64 0]) w) := by
  have t0 := not_find_sync
  have t1 := is_find
  go_enter Try.func17, Try.ntmps17
  go_wp2
  have hg : Holds ((w.alloc (.cells (#[.int .i64 2, .int .i64 a0, .int .i64 0, .int .i64 0, .int .u16 0, .int .u16 0, .int .i64 0, .int .i64 0, .int .i64 a1, .int .i64 0, .int .i64 0, .int .i64 0, .int .i64 0, .int .i64 0]) 24)).alloc (.cells (#[.int .i64 a0, .int .i64 a1]) 56)) w.heap.size 24 (#[.int .i64 2, .int .i64 a0, .int .i64 0, .int .i64 0, .int .u16 0, .int .u16 0, .int .i64 0, .int .i64 0, .int .i64 a1, .int .i64 0, .int .i64 0, .int .i64 0, .int .i64 0, .int .i64 0]) := (Holds.new _ _ _).alloc _
  refine bodyPost_ret (results_cell_row rfl _ _ w.heap.size 24 (#[.int .i64 2, .int .i64 a0, .int .i64 0, .int .i64 0, .int .u16 0, .int .u16 0, .int .i64 0, .int .i64 0, .int .i64 a1, .int .i64 0, .int .i64 0, .int .i64 0, .int .i64 0, .int .i64 0]) (0, 0) _ rfl (by first | exact hg | simpa using hg) Try.underlying24 rfl plain_size') rfl ⟨rfl, ?_⟩
  exact ((Below.refl _ _).alloc (Nat.le_refl _) _).alloc (by simp) _
set_option maxRecDepth 100000 in
set_option maxHeartbeats 2000000 in
theorem plain_want (a0 : Int) (w : World) : Calls Try.prog 17 #[.iface 51 (.agg #[.int .i64 a0])] w (Told (.agg #[.int .i64 3, .int .i64 a0, .int .i64 0, .int .i64 0, .int .u16 0, .int .u16 0, .int .i64 0, .int .i64 0, .int .i64 0, .int .i64 0, .int .i64 0, .int .i64 0, .int .i64 0, .int .i64 0]) w) := by
  have t0 := not_want_sync
  have t1 := not_want_find
  have t2 := is_want
  go_enter Try.func17, Try.ntmps17
  go_wp2
  have hg : Holds ((w.alloc (.cells (#[.int .i64 3, .int .i64 a0, .int .i64 0, .int .i64 0, .int .u16 0, .int .u16 0, .int .i64 0, .int .i64 0, .int .i64 0, .int .i64 0, .int .i64 0, .int .i64 0, .int .i64 0, .int .i64 0]) 24)).alloc (.cells (#[.int .i64 a0]) 51)) w.heap.size 24 (#[.int .i64 3, .int .i64 a0, .int .i64 0, .int .i64 0, .int .u16 0, .int .u16 0, .int .i64 0, .int .i64 0, .int .i64 0, .int .i64 0, .int .i64 0, .int .i64 0, .int .i64 0, .int .i64 0]) := (Holds.new _ _ _).alloc _
  refine bodyPost_ret (results_cell_row rfl _ _ w.heap.size 24 (#[.int .i64 3, .int .i64 a0, .int .i64 0, .int .i64 0, .int .u16 0, .int .u16 0, .int .i64 0, .int .i64 0, .int .i64 0, .int .i64 0, .int .i64 0, .int .i64 0, .int .i64 0, .int .i64 0]) (0, 0) _ rfl (by first | exact hg | simpa using hg) Try.underlying24 rfl plain_size') rfl ⟨rfl, ?_⟩
  exact ((Below.refl _ _).alloc (Nat.le_refl _) _).alloc (by simp) _
set_option maxRecDepth 100000 in
set_option maxHeartbeats 2000000 in
theorem plain_pulse (a0 a1 a2 : Int) (w : World) : Calls Try.prog 17 #[.iface 58 (.agg #[.int .i64 a0, .int .i64 a1, .int .i64 a2])] w (Told (.agg #[.int .i64 4, .int .i64 a0, .int .i64 a1, .int .i64 0, .int .u16 0, .int .u16 0, .int .i64 0, .int .i64 0, .int .i64 0, .int .i64 a2, .int .i64 0, .int .i64 0, .int .i64 0, .int .i64 0]) w) := by
  have t0 := not_pulse_sync
  have t1 := not_pulse_find
  have t2 := not_pulse_want
  have t3 := is_pulse
  go_enter Try.func17, Try.ntmps17
  go_wp2
  have hg : Holds ((w.alloc (.cells (#[.int .i64 4, .int .i64 a0, .int .i64 a1, .int .i64 0, .int .u16 0, .int .u16 0, .int .i64 0, .int .i64 0, .int .i64 0, .int .i64 a2, .int .i64 0, .int .i64 0, .int .i64 0, .int .i64 0]) 24)).alloc (.cells (#[.int .i64 a0, .int .i64 a1, .int .i64 a2]) 58)) w.heap.size 24 (#[.int .i64 4, .int .i64 a0, .int .i64 a1, .int .i64 0, .int .u16 0, .int .u16 0, .int .i64 0, .int .i64 0, .int .i64 0, .int .i64 a2, .int .i64 0, .int .i64 0, .int .i64 0, .int .i64 0]) := (Holds.new _ _ _).alloc _
  refine bodyPost_ret (results_cell_row rfl _ _ w.heap.size 24 (#[.int .i64 4, .int .i64 a0, .int .i64 a1, .int .i64 0, .int .u16 0, .int .u16 0, .int .i64 0, .int .i64 0, .int .i64 0, .int .i64 a2, .int .i64 0, .int .i64 0, .int .i64 0, .int .i64 0]) (0, 0) _ rfl (by first | exact hg | simpa using hg) Try.underlying24 rfl plain_size') rfl ⟨rfl, ?_⟩
  exact ((Below.refl _ _).alloc (Nat.le_refl _) _).alloc (by simp) _
set_option maxRecDepth 100000 in
set_option maxHeartbeats 2000000 in
theorem plain_reply (a0 a1 a2 a3 a4 a5 a6 a7 : Int) (w : World) : Calls Try.prog 17 #[.iface 60 (.agg #[.int .i64 a0, .int .i64 a1, .int .i64 a2, .int .i64 a3, .int .i64 a4, .int .i64 a5, .int .u16 a6, .int .i64 a7])] w (Told (.agg #[.int .i64 5, .int .i64 a0, .int .i64 a1, .int .i64 a5, .int .u16 a6, .int .u16 0, .int .i64 a7, .int .i64 0, .int .i64 0, .int .i64 a2, .int .i64 a3, .int .i64 a4, .int .i64 0, .int .i64 0]) w) := by
  have t0 := not_reply_sync
  have t1 := not_reply_find
  have t2 := not_reply_want
  have t3 := not_reply_pulse
  have t4 := is_reply
  go_enter Try.func17, Try.ntmps17
  go_wp2
  have hg : Holds ((w.alloc (.cells (#[.int .i64 5, .int .i64 a0, .int .i64 a1, .int .i64 a5, .int .u16 a6, .int .u16 0, .int .i64 a7, .int .i64 0, .int .i64 0, .int .i64 a2, .int .i64 a3, .int .i64 a4, .int .i64 0, .int .i64 0]) 24)).alloc (.cells (#[.int .i64 a0, .int .i64 a1, .int .i64 a2, .int .i64 a3, .int .i64 a4, .int .i64 a5, .int .u16 a6, .int .i64 a7]) 60)) w.heap.size 24 (#[.int .i64 5, .int .i64 a0, .int .i64 a1, .int .i64 a5, .int .u16 a6, .int .u16 0, .int .i64 a7, .int .i64 0, .int .i64 0, .int .i64 a2, .int .i64 a3, .int .i64 a4, .int .i64 0, .int .i64 0]) := (Holds.new _ _ _).alloc _
  refine bodyPost_ret (results_cell_row rfl _ _ w.heap.size 24 (#[.int .i64 5, .int .i64 a0, .int .i64 a1, .int .i64 a5, .int .u16 a6, .int .u16 0, .int .i64 a7, .int .i64 0, .int .i64 0, .int .i64 a2, .int .i64 a3, .int .i64 a4, .int .i64 0, .int .i64 0]) (0, 0) _ rfl (by first | exact hg | simpa using hg) Try.underlying24 rfl plain_size') rfl ⟨rfl, ?_⟩
  exact ((Below.refl _ _).alloc (Nat.le_refl _) _).alloc (by simp) _
set_option maxRecDepth 100000 in
set_option maxHeartbeats 2000000 in
theorem plain_anchor (a0 a1 a2 a3 a4 a5 : Int) (w : World) : Calls Try.prog 17 #[.iface 62 (.agg #[.int .i64 a0, .int .u16 a1, .int .i64 a2, .int .u16 a3, .int .i64 a4, .int .i64 a5])] w (Told (.agg #[.int .i64 6, .int .i64 a0, .int .i64 0, .int .i64 a2, .int .u16 a3, .int .u16 a1, .int .i64 0, .int .i64 0, .int .i64 0, .int .i64 0, .int .i64 0, .int .i64 0, .int .i64 a4, .int .i64 a5]) w) := by
  have t0 := not_anchor_sync
  have t1 := not_anchor_find
  have t2 := not_anchor_want
  have t3 := not_anchor_pulse
  have t4 := not_anchor_reply
  have t5 := is_anchor
  go_enter Try.func17, Try.ntmps17
  go_wp2
  have hg : Holds ((w.alloc (.cells (#[.int .i64 6, .int .i64 a0, .int .i64 0, .int .i64 a2, .int .u16 a3, .int .u16 a1, .int .i64 0, .int .i64 0, .int .i64 0, .int .i64 0, .int .i64 0, .int .i64 0, .int .i64 a4, .int .i64 a5]) 24)).alloc (.cells (#[.int .i64 a0, .int .u16 a1, .int .i64 a2, .int .u16 a3, .int .i64 a4, .int .i64 a5]) 62)) w.heap.size 24 (#[.int .i64 6, .int .i64 a0, .int .i64 0, .int .i64 a2, .int .u16 a3, .int .u16 a1, .int .i64 0, .int .i64 0, .int .i64 0, .int .i64 0, .int .i64 0, .int .i64 0, .int .i64 a4, .int .i64 a5]) := (Holds.new _ _ _).alloc _
  refine bodyPost_ret (results_cell_row rfl _ _ w.heap.size 24 (#[.int .i64 6, .int .i64 a0, .int .i64 0, .int .i64 a2, .int .u16 a3, .int .u16 a1, .int .i64 0, .int .i64 0, .int .i64 0, .int .i64 0, .int .i64 0, .int .i64 0, .int .i64 a4, .int .i64 a5]) (0, 0) _ rfl (by first | exact hg | simpa using hg) Try.underlying24 rfl plain_size') rfl ⟨rfl, ?_⟩
  exact ((Below.refl _ _).alloc (Nat.le_refl _) _).alloc (by simp) _
theorem plain_any (f : Fr) (w : World) : Calls Try.prog 17 #[f.val] w (Told f.plain.val w) := by
  cases f with
  | sync a0 a1 a2 a3 a4 a5 => exact plain_sync a0 a1 a2 a3 a4 a5 w
  | find a0 a1 => exact plain_find a0 a1 w
  | want a0 => exact plain_want a0 w
  | pulse a0 a1 a2 => exact plain_pulse a0 a1 a2 w
  | reply a0 a1 a2 a3 a4 a5 a6 a7 => exact plain_reply a0 a1 a2 a3 a4 a5 a6 a7 w
  | anchor a0 a1 a2 a3 a4 a5 => exact plain_anchor a0 a1 a2 a3 a4 a5 w
end Go.Proofs.Ytbdlpkkgfhknkaa

/- The fields of a frame's kind alone. (Written by wip/tools/mkframe.py.) -/
import Derived.Test.YtbdlpkkgfhknkaaFrmG
namespace Go.Proofs.Ytbdlpkkgfhknkaa
open Go.RowKit
set_option linter.unusedSimpArgs false
theorem plain_size : (Try.prog.info? 24).map (·.size) = some 14 := by kernel_rfl
set_option maxRecDepth 100000 in
set_option maxHeartbeats 2000000 in
theorem only_sync (frm to root boot seq hops time level sent got back glob tai : Int) (w : World) : Calls Try.prog 18 #[.agg #[.int .i64 1, .int .i64 frm, .int .i64 to, .int .i64 root, .int .u16 boot, .int .u16 seq, .int .i64 hops, .int .i64 time, .int .i64 level, .int .i64 sent, .int .i64 got, .int .i64 back, .int .i64 glob, .int .i64 tai]] w (Told (.agg #[.int .i64 1, .int .i64 frm, .int .i64 0, .int .i64 root, .int .u16 boot, .int .u16 seq, .int .i64 hops, .int .i64 time, .int .i64 0, .int .i64 0, .int .i64 0, .int .i64 0, .int .i64 0, .int .i64 0]) w) := by
  go_enter Try.func18, Try.ntmps18
  go_wp2
  refine bodyPost_ret (results_cell_row rfl _ _ (w.heap.size + 1) 24 (#[.int .i64 1, .int .i64 frm, .int .i64 0, .int .i64 root, .int .u16 boot, .int .u16 seq, .int .i64 hops, .int .i64 time, .int .i64 0, .int .i64 0, .int .i64 0, .int .i64 0, .int .i64 0, .int .i64 0]) (0, 0) _ rfl (by have := heap_alloc_new (w.alloc (.cells (#[.int .i64 1, .int .i64 frm, .int .i64 to, .int .i64 root, .int .u16 boot, .int .u16 seq, .int .i64 hops, .int .i64 time, .int .i64 level, .int .i64 sent, .int .i64 got, .int .i64 back, .int .i64 glob, .int .i64 tai]) 24)) (.cells (#[.int .i64 1, .int .i64 frm, .int .i64 0, .int .i64 root, .int .u16 boot, .int .u16 seq, .int .i64 hops, .int .i64 time, .int .i64 0, .int .i64 0, .int .i64 0, .int .i64 0, .int .i64 0, .int .i64 0]) 24); simpa using this) Try.underlying24 rfl plain_size) rfl ⟨rfl, ?_⟩
  exact ((Below.refl _ _).alloc (Nat.le_refl _) _).alloc (by simp) _
set_option maxRecDepth 100000 in
set_option maxHeartbeats 2000000 in
theorem only_find (frm to root boot seq hops time level sent got back glob tai : Int) (w : World) : Calls Try.prog 18 #[.agg #[.int .i64 2, .int .i64 frm, .int .i64 to, .int .i64 root, .int .u16 boot, .int .u16 seq, .int .i64 hops, .int .i64 time, .int .i64 level, .int .i64 sent, .int .i64 got, .int .i64 back, .int .i64 glob, .int .i64 tai]] w (Told (.agg #[.int .i64 2, .int .i64 frm, .int .i64 0, .int .i64 0, .int .u16 0, .int .u16 0, .int .i64 0, .int .i64 0, .int .i64 level, .int .i64 0, .int .i64 0, .int .i64 0, .int .i64 0, .int .i64 0]) w) := by
  go_enter Try.func18, Try.ntmps18
  go_wp2
  refine bodyPost_ret (results_cell_row rfl _ _ (w.heap.size + 1) 24 (#[.int .i64 2, .int .i64 frm, .int .i64 0, .int .i64 0, .int .u16 0, .int .u16 0, .int .i64 0, .int .i64 0, .int .i64 level, .int .i64 0, .int .i64 0, .int .i64 0, .int .i64 0, .int .i64 0]) (0, 0) _ rfl (by have := heap_alloc_new (w.alloc (.cells (#[.int .i64 2, .int .i64 frm, .int .i64 to, .int .i64 root, .int .u16 boot, .int .u16 seq, .int .i64 hops, .int .i64 time, .int .i64 level, .int .i64 sent, .int .i64 got, .int .i64 back, .int .i64 glob, .int .i64 tai]) 24)) (.cells (#[.int .i64 2, .int .i64 frm, .int .i64 0, .int .i64 0, .int .u16 0, .int .u16 0, .int .i64 0, .int .i64 0, .int .i64 level, .int .i64 0, .int .i64 0, .int .i64 0, .int .i64 0, .int .i64 0]) 24); simpa using this) Try.underlying24 rfl plain_size) rfl ⟨rfl, ?_⟩
  exact ((Below.refl _ _).alloc (Nat.le_refl _) _).alloc (by simp) _
set_option maxRecDepth 100000 in
set_option maxHeartbeats 2000000 in
theorem only_want (frm to root boot seq hops time level sent got back glob tai : Int) (w : World) : Calls Try.prog 18 #[.agg #[.int .i64 3, .int .i64 frm, .int .i64 to, .int .i64 root, .int .u16 boot, .int .u16 seq, .int .i64 hops, .int .i64 time, .int .i64 level, .int .i64 sent, .int .i64 got, .int .i64 back, .int .i64 glob, .int .i64 tai]] w (Told (.agg #[.int .i64 3, .int .i64 frm, .int .i64 0, .int .i64 0, .int .u16 0, .int .u16 0, .int .i64 0, .int .i64 0, .int .i64 0, .int .i64 0, .int .i64 0, .int .i64 0, .int .i64 0, .int .i64 0]) w) := by
  go_enter Try.func18, Try.ntmps18
  go_wp2
  refine bodyPost_ret (results_cell_row rfl _ _ (w.heap.size + 1) 24 (#[.int .i64 3, .int .i64 frm, .int .i64 0, .int .i64 0, .int .u16 0, .int .u16 0, .int .i64 0, .int .i64 0, .int .i64 0, .int .i64 0, .int .i64 0, .int .i64 0, .int .i64 0, .int .i64 0]) (0, 0) _ rfl (by have := heap_alloc_new (w.alloc (.cells (#[.int .i64 3, .int .i64 frm, .int .i64 to, .int .i64 root, .int .u16 boot, .int .u16 seq, .int .i64 hops, .int .i64 time, .int .i64 level, .int .i64 sent, .int .i64 got, .int .i64 back, .int .i64 glob, .int .i64 tai]) 24)) (.cells (#[.int .i64 3, .int .i64 frm, .int .i64 0, .int .i64 0, .int .u16 0, .int .u16 0, .int .i64 0, .int .i64 0, .int .i64 0, .int .i64 0, .int .i64 0, .int .i64 0, .int .i64 0, .int .i64 0]) 24); simpa using this) Try.underlying24 rfl plain_size) rfl ⟨rfl, ?_⟩
  exact ((Below.refl _ _).alloc (Nat.le_refl _) _).alloc (by simp) _
set_option maxRecDepth 100000 in
set_option maxHeartbeats 2000000 in
theorem only_pulse (frm to root boot seq hops time level sent got back glob tai : Int) (w : World) : Calls Try.prog 18 #[.agg #[.int .i64 4, .int .i64 frm, .int .i64 to, .int .i64 root, .int .u16 boot, .int .u16 seq, .int .i64 hops, .int .i64 time, .int .i64 level, .int .i64 sent, .int .i64 got, .int .i64 back, .int .i64 glob, .int .i64 tai]] w (Told (.agg #[.int .i64 4, .int .i64 frm, .int .i64 to, .int .i64 0, .int .u16 0, .int .u16 0, .int .i64 0, .int .i64 0, .int .i64 0, .int .i64 sent, .int .i64 0, .int .i64 0, .int .i64 0, .int .i64 0]) w) := by
  go_enter Try.func18, Try.ntmps18
  go_wp2
  refine bodyPost_ret (results_cell_row rfl _ _ (w.heap.size + 1) 24 (#[.int .i64 4, .int .i64 frm, .int .i64 to, .int .i64 0, .int .u16 0, .int .u16 0, .int .i64 0, .int .i64 0, .int .i64 0, .int .i64 sent, .int .i64 0, .int .i64 0, .int .i64 0, .int .i64 0]) (0, 0) _ rfl (by have := heap_alloc_new (w.alloc (.cells (#[.int .i64 4, .int .i64 frm, .int .i64 to, .int .i64 root, .int .u16 boot, .int .u16 seq, .int .i64 hops, .int .i64 time, .int .i64 level, .int .i64 sent, .int .i64 got, .int .i64 back, .int .i64 glob, .int .i64 tai]) 24)) (.cells (#[.int .i64 4, .int .i64 frm, .int .i64 to, .int .i64 0, .int .u16 0, .int .u16 0, .int .i64 0, .int .i64 0, .int .i64 0, .int .i64 sent, .int .i64 0, .int .i64 0, .int .i64 0, .int .i64 0]) 24); simpa using this) Try.underlying24 rfl plain_size) rfl ⟨rfl, ?_⟩
  exact ((Below.refl _ _).alloc (Nat.le_refl _) _).alloc (by simp) _
set_option maxRecDepth 100000 in
set_option maxHeartbeats 2000000 in
theorem only_reply (frm to root boot seq hops time level sent got back glob tai : Int) (w : World) : Calls Try.prog 18 #[.agg #[.int .i64 5, .int .i64 frm, .int .i64 to, .int .i64 root, .int .u16 boot, .int .u16 seq, .int .i64 hops, .int .i64 time, .int .i64 level, .int .i64 sent, .int .i64 got, .int .i64 back, .int .i64 glob, .int .i64 tai]] w (Told (.agg #[.int .i64 5, .int .i64 frm, .int .i64 to, .int .i64 root, .int .u16 boot, .int .u16 0, .int .i64 hops, .int .i64 0, .int .i64 0, .int .i64 sent, .int .i64 got, .int .i64 back, .int .i64 0, .int .i64 0]) w) := by
  go_enter Try.func18, Try.ntmps18
  go_wp2
  refine bodyPost_ret (results_cell_row rfl _ _ (w.heap.size + 1) 24 (#[.int .i64 5, .int .i64 frm, .int .i64 to, .int .i64 root, .int .u16 boot, .int .u16 0, .int .i64 hops, .int .i64 0, .int .i64 0, .int .i64 sent, .int .i64 got, .int .i64 back, .int .i64 0, .int .i64 0]) (0, 0) _ rfl (by have := heap_alloc_new (w.alloc (.cells (#[.int .i64 5, .int .i64 frm, .int .i64 to, .int .i64 root, .int .u16 boot, .int .u16 seq, .int .i64 hops, .int .i64 time, .int .i64 level, .int .i64 sent, .int .i64 got, .int .i64 back, .int .i64 glob, .int .i64 tai]) 24)) (.cells (#[.int .i64 5, .int .i64 frm, .int .i64 to, .int .i64 root, .int .u16 boot, .int .u16 0, .int .i64 hops, .int .i64 0, .int .i64 0, .int .i64 sent, .int .i64 got, .int .i64 back, .int .i64 0, .int .i64 0]) 24); simpa using this) Try.underlying24 rfl plain_size) rfl ⟨rfl, ?_⟩
  exact ((Below.refl _ _).alloc (Nat.le_refl _) _).alloc (by simp) _
set_option maxRecDepth 100000 in
set_option maxHeartbeats 2000000 in
theorem only_anchor (frm to root boot seq hops time level sent got back glob tai : Int) (w : World) : Calls Try.prog 18 #[.agg #[.int .i64 6, .int .i64 frm, .int .i64 to, .int .i64 root, .int .u16 boot, .int .u16 seq, .int .i64 hops, .int .i64 time, .int .i64 level, .int .i64 sent, .int .i64 got, .int .i64 back, .int .i64 glob, .int .i64 tai]] w (Told (.agg #[.int .i64 6, .int .i64 frm, .int .i64 0, .int .i64 root, .int .u16 boot, .int .u16 seq, .int .i64 0, .int .i64 0, .int .i64 0, .int .i64 0, .int .i64 0, .int .i64 0, .int .i64 glob, .int .i64 tai]) w) := by
  go_enter Try.func18, Try.ntmps18
  go_wp2
  refine bodyPost_ret (results_cell_row rfl _ _ (w.heap.size + 1) 24 (#[.int .i64 6, .int .i64 frm, .int .i64 0, .int .i64 root, .int .u16 boot, .int .u16 seq, .int .i64 0, .int .i64 0, .int .i64 0, .int .i64 0, .int .i64 0, .int .i64 0, .int .i64 glob, .int .i64 tai]) (0, 0) _ rfl (by have := heap_alloc_new (w.alloc (.cells (#[.int .i64 6, .int .i64 frm, .int .i64 to, .int .i64 root, .int .u16 boot, .int .u16 seq, .int .i64 hops, .int .i64 time, .int .i64 level, .int .i64 sent, .int .i64 got, .int .i64 back, .int .i64 glob, .int .i64 tai]) 24)) (.cells (#[.int .i64 6, .int .i64 frm, .int .i64 0, .int .i64 root, .int .u16 boot, .int .u16 seq, .int .i64 0, .int .i64 0, .int .i64 0, .int .i64 0, .int .i64 0, .int .i64 0, .int .i64 glob, .int .i64 tai]) 24); simpa using this) Try.underlying24 rfl plain_size) rfl ⟨rfl, ?_⟩
  exact ((Below.refl _ _).alloc (Nat.le_refl _) _).alloc (by simp) _
set_option maxRecDepth 100000 in
set_option maxHeartbeats 2000000 in
theorem only_nil (kind frm to root boot seq hops time level sent got back glob tai : Int) (w : World) (h1 : (kind == 1) = false) (h2 : (kind == 2) = false) (h3 : (kind == 3) = false) (h4 : (kind == 4) = false) (h5 : (kind == 5) = false) (h6 : (kind == 6) = false) : Calls Try.prog 18 #[.agg #[.int .i64 kind, .int .i64 frm, .int .i64 to, .int .i64 root, .int .u16 boot, .int .u16 seq, .int .i64 hops, .int .i64 time, .int .i64 level, .int .i64 sent, .int .i64 got, .int .i64 back, .int .i64 glob, .int .i64 tai]] w (Told (.agg #[.int .i64 0, .int .i64 0, .int .i64 0, .int .i64 0, .int .u16 0, .int .u16 0, .int .i64 0, .int .i64 0, .int .i64 0, .int .i64 0, .int .i64 0, .int .i64 0, .int .i64 0, .int .i64 0]) w) := by
  go_enter Try.func18, Try.ntmps18
  go_wp2
  refine bodyPost_ret (results_cell_row rfl _ _ (w.heap.size + 1) 24 (#[.int .i64 0, .int .i64 0, .int .i64 0, .int .i64 0, .int .u16 0, .int .u16 0, .int .i64 0, .int .i64 0, .int .i64 0, .int .i64 0, .int .i64 0, .int .i64 0, .int .i64 0, .int .i64 0]) (0, 0) _ rfl (by have := heap_alloc_new (w.alloc (.cells (#[.int .i64 kind, .int .i64 frm, .int .i64 to, .int .i64 root, .int .u16 boot, .int .u16 seq, .int .i64 hops, .int .i64 time, .int .i64 level, .int .i64 sent, .int .i64 got, .int .i64 back, .int .i64 glob, .int .i64 tai]) 24)) (.cells (#[.int .i64 0, .int .i64 0, .int .i64 0, .int .i64 0, .int .u16 0, .int .u16 0, .int .i64 0, .int .i64 0, .int .i64 0, .int .i64 0, .int .i64 0, .int .i64 0, .int .i64 0, .int .i64 0]) 24); simpa using this) Try.underlying24 rfl plain_size) rfl ⟨rfl, ?_⟩
  exact ((Below.refl _ _).alloc (Nat.le_refl _) _).alloc (by simp) _
theorem only_any (p : Pl) (w : World) : Calls Try.prog 18 #[p.val] w (Told (p.only.val) w) := by
  obtain ⟨kind, frm, to, root, boot, seq, hops, time, level, sent, got, back, glob, tai⟩ := p
  by_cases h1 : kind = 1
  · subst h1
    exact only_sync frm to root boot seq hops time level sent got back glob tai w
  by_cases h2 : kind = 2
  · subst h2
    exact only_find frm to root boot seq hops time level sent got back glob tai w
  by_cases h3 : kind = 3
  · subst h3
    exact only_want frm to root boot seq hops time level sent got back glob tai w
  by_cases h4 : kind = 4
  · subst h4
    exact only_pulse frm to root boot seq hops time level sent got back glob tai w
  by_cases h5 : kind = 5
  · subst h5
    exact only_reply frm to root boot seq hops time level sent got back glob tai w
  by_cases h6 : kind = 6
  · subst h6
    exact only_anchor frm to root boot seq hops time level sent got back glob tai w
  have e : (Pl.mk kind frm to root boot seq hops time level sent got back glob tai).fr = none := by unfold Pl.fr; simp [h1, h2, h3, h4, h5, h6]
  have n := only_nil kind frm to root boot seq hops time level sent got back glob tai w (by simpa using h1) (by simpa using h2) (by simpa using h3) (by simpa using h4) (by simpa using h5) (by simpa using h6)
  rw [show (Pl.mk kind frm to root boot seq hops time level sent got back glob tai).only = .zero by unfold Pl.only; rw [e]]
  exact n
end Go.Proofs.Ytbdlpkkgfhknkaa

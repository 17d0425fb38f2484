/- What picked answers of a frame. (Written by wip/tools/mkframe.py.) -/
import Derived.Test.YtbdlpkkgfhknkaaFrmP
import Derived.Test.YtbdlpkkgfhknkaaTurn
namespace Go.Proofs.Ytbdlpkkgfhknkaa
open Go.RowKit
set_option linter.unusedSimpArgs false
attribute [local go_sem ↓] Go.wp_at_zero Go.wp_at_succ
theorem not_want_sync (W : World) (v : Value) : (Instr.typeAssert (.iface 51 v) 27 54 true).run Try.prog W = .ok (.tuple #[.agg #[.int .i64 0, .int .i64 0, .int .u16 0, .int .u16 0, .int .i64 0, .int .i64 0], .bool false]) W := by kernel_rfl
theorem not_want_find (W : World) (v : Value) : (Instr.typeAssert (.iface 51 v) 27 56 true).run Try.prog W = .ok (.tuple #[.agg #[.int .i64 0, .int .i64 0], .bool false]) W := by kernel_rfl
theorem is_want (W : World) (v : Value) : (Instr.typeAssert (.iface 51 v) 27 51 true).run Try.prog W = .ok (.tuple #[v, .bool true]) W := by kernel_rfl
set_option maxHeartbeats 4000000 in
set_option maxRecDepth 100000 in
theorem picked_want {S : Type} (p : Picks S) (hp : p.Right) (s0 s1 s2 : S) (a0 b0 bk : Int) (w : World) (h : p.inv s0 w) (q : Pick p s0 0 3 bk s1) (q0 : Pick p s1 1 a0 b0 s2) :
    Calls Try.prog 20 #[.iface 51 (.agg #[.int .i64 a0]), .func (.func p.fn) #[] p.caps] w (Picked (.iface 51 (.agg #[.int .i64 b0])) p s2 w) := by
  have en : ∀ (args : Array Value) (w : World), (callFunc p.fn args).run Try.prog w = .ok (.enter p.fn args) w := hp.enters
  have t0 := not_want_sync
  have t1 := not_want_find
  have t2 := is_want
  have hm := Mid.start (T := 51) (cs := #[.int .i64 a0]) hp (by unfold frameType; decide) (noByte_of rfl) h
  have HP := Lib.hid hp
  clear hp h
  go_enter Try.func20, Try.ntmps20
  go_wp2_with (first
    | (go_at_fn p.fn; (with_reducible refine (hm.pick HP.out q).mono ?_); rintro e w0 ⟨rfl, m0⟩; have c0 := m0.holds.cell 0)
    | (go_at_fn p.fn; (with_reducible refine (m0.pick HP.out q0).mono ?_); rintro e w1 ⟨rfl, m1⟩; have f1 := m1.holds.soft 0; have c1 := m1.holds.cell 0))
  go_ret
  exact (m1.put HP.out 0 _).done _
end Go.Proofs.Ytbdlpkkgfhknkaa

/- Who sends a frame: the method of each kind. -/
import Derived.Test.YtbdlpkkgfhknkaaFrmU
import Derived.Shelf.Abstract
import Derived.Test.YtbdlpkkgfhknkaaTurn
namespace Go.Proofs.Ytbdlpkkgfhknkaa
open Go.RowKit Go.Shelf
set_option linter.unusedSimpArgs false

/-- Of a frame: its type, its value, its method, who sends it. -/
structure Sends (v : Value) (frm : Int) (T : TypeId) (x : Value) (K : FuncId) : Prop where
  val : v = .iface T x
  method : ∀ W, (method (Try.prog.types.size + Made.depth) T x "Sender").run Try.prog W = .ok (K, x) W
  enters : ∀ args W, (callFunc K args).run Try.prog W = .ok (.enter K args) W
  told : ∀ W, Calls Try.prog K #[x] W (Told (.int .i64 frm) W)
theorem sends_sync (a b c d e f : Int) : Sends (Fr.sync a b c d e f).val a 54 (.agg #[.int .i64 a, .int .i64 b, .int .u16 c, .int .u16 d, .int .i64 e, .int .i64 f]) 61 where
  val := rfl
  method := fun W => by kernel_rfl
  enters := fun args W => by kernel_rfl
  told := fun w => by
    go_enter Try.func61, Try.ntmps61
    go_wp2
    go_ret
    exact ⟨rfl, (Below.refl _ _).alloc (Nat.le_refl _) _⟩
theorem sends_find (a b : Int) : Sends (Fr.find a b).val a 56 (.agg #[.int .i64 a, .int .i64 b]) 62 where
  val := rfl
  method := fun W => by kernel_rfl
  enters := fun args W => by kernel_rfl
  told := fun w => by
    go_enter Try.func62, Try.ntmps62
    go_wp2
    go_ret
    exact ⟨rfl, (Below.refl _ _).alloc (Nat.le_refl _) _⟩
theorem sends_want (a : Int) : Sends (Fr.want a).val a 51 (.agg #[.int .i64 a]) 60 where
  val := rfl
  method := fun W => by kernel_rfl
  enters := fun args W => by kernel_rfl
  told := fun w => by
    go_enter Try.func60, Try.ntmps60
    go_wp2
    go_ret
    exact ⟨rfl, (Below.refl _ _).alloc (Nat.le_refl _) _⟩
theorem sends_pulse (a b c : Int) : Sends (Fr.pulse a b c).val a 58 (.agg #[.int .i64 a, .int .i64 b, .int .i64 c]) 63 where
  val := rfl
  method := fun W => by kernel_rfl
  enters := fun args W => by kernel_rfl
  told := fun w => by
    go_enter Try.func63, Try.ntmps63
    go_wp2
    go_ret
    exact ⟨rfl, (Below.refl _ _).alloc (Nat.le_refl _) _⟩
theorem sends_reply (a b c d e f g h : Int) : Sends (Fr.reply a b c d e f g h).val a 60 (.agg #[.int .i64 a, .int .i64 b, .int .i64 c, .int .i64 d, .int .i64 e, .int .i64 f, .int .u16 g, .int .i64 h]) 64 where
  val := rfl
  method := fun W => by kernel_rfl
  enters := fun args W => by kernel_rfl
  told := fun w => by
    go_enter Try.func64, Try.ntmps64
    go_wp2
    go_ret
    exact ⟨rfl, (Below.refl _ _).alloc (Nat.le_refl _) _⟩
theorem sends_anchor (a b c d e f : Int) : Sends (Fr.anchor a b c d e f).val a 62 (.agg #[.int .i64 a, .int .u16 b, .int .i64 c, .int .u16 d, .int .i64 e, .int .i64 f]) 65 where
  val := rfl
  method := fun W => by kernel_rfl
  enters := fun args W => by kernel_rfl
  told := fun w => by
    go_enter Try.func65, Try.ntmps65
    go_wp2
    go_ret
    exact ⟨rfl, (Below.refl _ _).alloc (Nat.le_refl _) _⟩
theorem sends_any {p : Pl} {f : Fr} (h : p.fr = some f) : ∃ T x K, Sends f.val p.frm T x K := by
  unfold Pl.fr at h
  repeat' split at h
  all_goals first
    | (simp only [Option.some.injEq] at h; subst h; first | exact ⟨_, _, _, sends_sync ..⟩ | exact ⟨_, _, _, sends_find ..⟩ | exact ⟨_, _, _, sends_want ..⟩ | exact ⟨_, _, _, sends_pulse ..⟩ | exact ⟨_, _, _, sends_reply ..⟩ | exact ⟨_, _, _, sends_anchor ..⟩)
    | cases h
theorem neq_nil (T : TypeId) (x : Value) (W : World) : (binOp .neq 27 (.iface T x) .nilIface).run Try.prog W = .ok (.bool true) W := by kernel_rfl
theorem nil_neq (W : World) : (binOp .neq 27 .nilIface .nilIface).run Try.prog W = .ok (.bool false) W := by kernel_rfl
section
variable {P : Program} {ops : Array Oper} {Q : Exit → Act → World → Prop} {md : Region.Mode} {S : World → Prop} {late : Nat → Bool}
/-- Number i, which its guard shuts out, is passed over first. -/
theorem Turns.skip {n : Nat} {listed : Array Bool} {a : Act} {w : World} (hS : S w) (i : Nat) {oi : Oper} (hi : ops[i]? = some oi) (hs : Region.noSelect ops = true) (hf : Region.free md ops listed i = true)
    (hr : (Region.ready md ops listed).contains i = true) (hw : lateWaits md ops late i listed = true) (hQ : ∀ c a w, Q (.panic c) (a.put oi.dst undef) w → Q (.panic c) a w) (hwant : Region.wanted oi (yielded ops a.tmps) = false)
    (h : Turns P md ops Q S late n (listed.setIfInBounds i true) (a.put oi.dst undef) w) : Turns P md ops Q S late (n + 1) listed a w :=
  Turns.first hi hs hQ n listed a w (Region.free_spec hi hf) hw (by simpa using hr) (.inr ⟨hwant, rfl⟩) hS h
end
theorem fuel : Try.prog.types.size + Made.depth = 214 := by kernel_rfl
end Go.Proofs.Ytbdlpkkgfhknkaa

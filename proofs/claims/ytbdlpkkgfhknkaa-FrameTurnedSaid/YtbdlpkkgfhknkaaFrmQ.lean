/- What picked answers of whatever frame, and of none. -/
import Derived.Test.YtbdlpkkgfhknkaaFrmV
import Derived.Test.YtbdlpkkgfhknkaaFrmKSync
import Derived.Test.YtbdlpkkgfhknkaaFrmKFind
import Derived.Test.YtbdlpkkgfhknkaaFrmKWant
import Derived.Test.YtbdlpkkgfhknkaaFrmKPulse
import Derived.Test.YtbdlpkkgfhknkaaFrmKReply
import Derived.Test.YtbdlpkkgfhknkaaFrmKAnchor
namespace Go.Proofs.Ytbdlpkkgfhknkaa
open Go.RowKit

/-- One pick behind another. -/
def Chain {S : Type} (p : Picks S) : S → List (Int × Int) → List Int → S → Prop
  | s, [], bs, s' => bs = [] ∧ s = s'
  | s, q :: qs, bs, s' => ∃ b rest s1, bs = b :: rest ∧ Pick p s q.1 q.2 b s1 ∧ Chain p s1 qs rest s'
theorem Chain.cons {S : Type} {p : Picks S} {s s' : S} {q : Int × Int} {qs : List (Int × Int)} {b : Int} {bs : List Int} (h : Chain p s (q :: qs) (b :: bs) s') : ∃ s1, Pick p s q.1 q.2 b s1 ∧ Chain p s1 qs bs s' := by
  obtain ⟨b', rest, s1, e, h1, h2⟩ := h
  injection e with e1 e2
  subst e1
  subst e2
  exact ⟨s1, h1, h2⟩
theorem Chain.nil {S : Type} {p : Picks S} {s s' : S} (h : Chain p s [] [] s') : s = s' := h.2
/-- Its marks are numbers of two bytes. -/
def Fr.marks (f : Fr) : Prop := ∀ x ∈ f.fields, x.1 = 3 → F16 x.2
theorem Fr.wf.marks {f : Fr} (h : f.wf) : f.marks := fun x hx h3 => by
  have := h x hx
  rwa [if_pos h3] at this

theorem picked_any {S : Type} (p : Picks S) (hp : p.Right) (s s' : S) (bk : Int) (w : World) (h : p.inv s w) (f g : Fr) (hk : f.kind = g.kind) (hc : Chain p s f.asks (bk :: g.nums) s') (hf : f.marks) (hg : g.marks) :
    Calls Try.prog 20 #[f.val, .func (.func p.fn) #[] p.caps] w (Picked g.val p s' w) := by
  cases f with
  | sync a0 a1 a2 a3 a4 a5 =>
    cases g with
    | sync b0 b1 b2 b3 b4 b5 =>
      obtain ⟨s1, q, hc⟩ := hc.cons
      obtain ⟨s2, q0, hc⟩ := hc.cons
      obtain ⟨s3, q1, hc⟩ := hc.cons
      obtain ⟨s4, q2, hc⟩ := hc.cons
      obtain ⟨s5, q3, hc⟩ := hc.cons
      obtain ⟨s6, q4, hc⟩ := hc.cons
      obtain ⟨s7, q5, hc⟩ := hc.cons
      obtain rfl := hc.nil
      exact picked_sync p hp s s1 s2 s3 s4 s5 s6 s7 a0 a1 a2 a3 a4 a5 b0 b1 b2 b3 b4 b5 bk w h q q0 q1 q2 (hf (3, a2) (by simp [Fr.fields]) rfl) (hg (3, b2) (by simp [Fr.fields]) rfl) q3 (hf (3, a3) (by simp [Fr.fields]) rfl) (hg (3, b3) (by simp [Fr.fields]) rfl) q4 q5
    | _ => simp [Fr.kind] at hk
  | find a0 a1 =>
    cases g with
    | find b0 b1 =>
      obtain ⟨s1, q, hc⟩ := hc.cons
      obtain ⟨s2, q0, hc⟩ := hc.cons
      obtain ⟨s3, q1, hc⟩ := hc.cons
      obtain rfl := hc.nil
      exact picked_find p hp s s1 s2 s3 a0 a1 b0 b1 bk w h q q0 q1
    | _ => simp [Fr.kind] at hk
  | want a0 =>
    cases g with
    | want b0 =>
      obtain ⟨s1, q, hc⟩ := hc.cons
      obtain ⟨s2, q0, hc⟩ := hc.cons
      obtain rfl := hc.nil
      exact picked_want p hp s s1 s2 a0 b0 bk w h q q0
    | _ => simp [Fr.kind] at hk
  | pulse a0 a1 a2 =>
    cases g with
    | pulse b0 b1 b2 =>
      obtain ⟨s1, q, hc⟩ := hc.cons
      obtain ⟨s2, q0, hc⟩ := hc.cons
      obtain ⟨s3, q1, hc⟩ := hc.cons
      obtain ⟨s4, q2, hc⟩ := hc.cons
      obtain rfl := hc.nil
      exact picked_pulse p hp s s1 s2 s3 s4 a0 a1 a2 b0 b1 b2 bk w h q q0 q1 q2
    | _ => simp [Fr.kind] at hk
  | reply a0 a1 a2 a3 a4 a5 a6 a7 =>
    cases g with
    | reply b0 b1 b2 b3 b4 b5 b6 b7 =>
      obtain ⟨s1, q, hc⟩ := hc.cons
      obtain ⟨s2, q0, hc⟩ := hc.cons
      obtain ⟨s3, q1, hc⟩ := hc.cons
      obtain ⟨s4, q2, hc⟩ := hc.cons
      obtain ⟨s5, q3, hc⟩ := hc.cons
      obtain ⟨s6, q4, hc⟩ := hc.cons
      obtain ⟨s7, q5, hc⟩ := hc.cons
      obtain ⟨s8, q6, hc⟩ := hc.cons
      obtain ⟨s9, q7, hc⟩ := hc.cons
      obtain rfl := hc.nil
      exact picked_reply p hp s s1 s2 s3 s4 s5 s6 s7 s8 s9 a0 a1 a2 a3 a4 a5 a6 a7 b0 b1 b2 b3 b4 b5 b6 b7 bk w h q q0 q1 q2 q3 q4 q5 q6 (hf (3, a6) (by simp [Fr.fields]) rfl) (hg (3, b6) (by simp [Fr.fields]) rfl) q7
    | _ => simp [Fr.kind] at hk
  | anchor a0 a1 a2 a3 a4 a5 =>
    cases g with
    | anchor b0 b1 b2 b3 b4 b5 =>
      obtain ⟨s1, q, hc⟩ := hc.cons
      obtain ⟨s2, q0, hc⟩ := hc.cons
      obtain ⟨s3, q1, hc⟩ := hc.cons
      obtain ⟨s4, q2, hc⟩ := hc.cons
      obtain ⟨s5, q3, hc⟩ := hc.cons
      obtain ⟨s6, q4, hc⟩ := hc.cons
      obtain ⟨s7, q5, hc⟩ := hc.cons
      obtain rfl := hc.nil
      exact picked_anchor p hp s s1 s2 s3 s4 s5 s6 s7 a0 a1 a2 a3 a4 a5 b0 b1 b2 b3 b4 b5 bk w h q q0 q1 (hf (3, a1) (by simp [Fr.fields]) rfl) (hg (3, b1) (by simp [Fr.fields]) rfl) q2 q3 (hf (3, a3) (by simp [Fr.fields]) rfl) (hg (3, b3) (by simp [Fr.fields]) rfl) q4 q5
    | _ => simp [Fr.kind] at hk

theorem nil_sync (W : World) : (Instr.typeAssert .nilIface 27 54 true).run Try.prog W = .ok (.tuple #[.agg #[.int .i64 0, .int .i64 0, .int .u16 0, .int .u16 0, .int .i64 0, .int .i64 0], .bool false]) W := by kernel_rfl
theorem nil_find (W : World) : (Instr.typeAssert .nilIface 27 56 true).run Try.prog W = .ok (.tuple #[.agg #[.int .i64 0, .int .i64 0], .bool false]) W := by kernel_rfl
theorem nil_want (W : World) : (Instr.typeAssert .nilIface 27 51 true).run Try.prog W = .ok (.tuple #[.agg #[.int .i64 0], .bool false]) W := by kernel_rfl
theorem nil_pulse (W : World) : (Instr.typeAssert .nilIface 27 58 true).run Try.prog W = .ok (.tuple #[.agg #[.int .i64 0, .int .i64 0, .int .i64 0], .bool false]) W := by kernel_rfl
theorem nil_reply (W : World) : (Instr.typeAssert .nilIface 27 60 true).run Try.prog W = .ok (.tuple #[.agg #[.int .i64 0, .int .i64 0, .int .i64 0, .int .i64 0, .int .i64 0, .int .i64 0, .int .u16 0, .int .i64 0], .bool false]) W := by kernel_rfl
theorem nil_anchor (W : World) : (Instr.typeAssert .nilIface 27 62 true).run Try.prog W = .ok (.tuple #[.agg #[.int .i64 0, .int .u16 0, .int .i64 0, .int .u16 0, .int .i64 0, .int .i64 0], .bool false]) W := by kernel_rfl
set_option maxRecDepth 100000 in
theorem picked_nil (v : Value) (w : World) : Calls Try.prog 20 #[.nilIface, v] w fun e w' => e = .returned .nilIface ∧ w = w' := by
  have t1 := nil_sync
  have t2 := nil_find
  have t3 := nil_want
  have t4 := nil_pulse
  have t5 := nil_reply
  have t6 := nil_anchor
  go_enter Try.func20, Try.ntmps20
  go_wp2
  go_ret
  exact ⟨rfl, rfl⟩
end Go.Proofs.Ytbdlpkkgfhknkaa

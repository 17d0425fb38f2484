/- Stage 24: both logs side by side. -/
import Derived.Test.YtjifnnloncanpaaEvO
import Derived.Test.YtjifnnloncanpaaEvS
import Derived.Test.YtjifnnloncanpaaEvE
import Derived.Test.YtjifnnloncanpaaEvF
namespace Go.Proofs.Ytjifnnloncanpaa
open Go.RowKit
set_option linter.unusedVariables false
set_option linter.unusedSimpArgs false

/-- Both logs: the program's at z + 2, the document's at d. -/
structure Ted (w0 : World) (z d : Nat) (L : List Ev) (last : Int) (w : World) : Prop where
  log : Lg w z (z + 2) (z + 1) z L last
  doc : Dl w (d + 1) d L last
  below : Below w0.heap.size w0 w
  old : w0.heap.size ≤ z
  apart : z + 3 ≤ d
  size : d + 1 ≤ w.heap.size
/-- The program's has gone ahead. -/
structure TedP (w0 : World) (z d : Nat) (L M : List Ev) (last m : Int) (w : World) : Prop where
  log : Lg w z (z + 2) (z + 1) z L last
  doc : Dl w (d + 1) d M m
  below : Below w0.heap.size w0 w
  old : w0.heap.size ≤ z
  apart : z + 3 ≤ d
  size : d + 1 ≤ w.heap.size
section
variable {w0 w w' : World} {z d : Nat} {L M : List Ev} {last m : Int}
theorem Ted.onto (h : Ted w0 z d L last w) (hb : Below w.heap.size w w') : Ted w0 z d L last w' :=
  ⟨h.log.below hb, h.doc.below hb, h.below.trans (hb.mono h.below.size), h.old, h.apart, Nat.le_trans h.size hb.size⟩
theorem TedP.onto (h : TedP w0 z d L M last m w) (hb : Below w.heap.size w w') : TedP w0 z d L M last m w' :=
  ⟨h.log.below hb, h.doc.below hb, h.below.trans (hb.mono h.below.size), h.old, h.apart, Nat.le_trans h.size hb.size⟩
theorem Ted.stepP {L' : List Ev} {last' : Int} (h : Ted w0 z d L last w) (hl : Lg w' z (z + 2) (z + 1) z L' last') (hc : Chg (lpart (z + 2) (z + 1) z) w w') : TedP w0 z d L' L last' last w' :=
  ⟨hl, h.doc.chg hc (fun hp => by have := lpart_lt d hp; have := h.apart; omega) (fun k hk hp => by have := lpart_lt k hp; have := h.apart; omega), lg_below h.log h.below hc h.old, h.old, h.apart, Nat.le_trans h.size hc.size⟩
theorem TedP.stepD (h : TedP w0 z d L M last m w) (hd : Dl w' (d + 1) d L last) (hc : Chg (fun k => k = d) w w') : Ted w0 z d L last w' :=
  ⟨h.log.chg hc (fun k hk e => by have := lpart_lt k hk; have := h.apart; omega), hd, Below.chg h.below hc h.below.size (fun k hk => by have := h.apart; have := h.old; omega), h.old, h.apart, Nat.le_trans h.size hc.size⟩
/-- A new log of the document's in place of the other one. -/
theorem TedP.clear (h : TedP w0 z d [] M 0 m w) : Ted w0 z w.heap.size [] 0 (w.alloc (.cells #[.slice none 0 0, .slice none 0 0, .int .i64 0] 30)) :=
  ⟨h.log.below (below_alloc _ _), Dl.new w, h.below.alloc h.below.size _, h.old, by have := h.apart; have := h.size; omega, by simp⟩
theorem Ted.start (hl : Lg w z (z + 2) (z + 1) z [] 0) (hb : Below w0.heap.size w0 w) (ho : w0.heap.size ≤ z) (hs : w.heap.size = z + 3) : Ted w0 z w.heap.size [] 0 (w.alloc (.cells #[.slice none 0 0, .slice none 0 0, .int .i64 0] 30)) :=
  ⟨hl.below (below_alloc _ _), Dl.new w, hb.alloc hb.size _, ho, by omega, by simp⟩
theorem Ted.same (h : Ted w0 z d L last w) : Calls Try.prog 12 #[.pointer (some ⟨z + 2, 0, none⟩), .pointer (some ⟨d, 0, none⟩)] w fun e w' => e = .returned (.bool true) ∧ Below w.heap.size w w' :=
  same_any w (some ⟨z + 2, 0, none⟩) (some ⟨z + 1, 0, none⟩) (d + 1) d L last h.log.len (fun W hW => events_any W z _ _ _ L last (h.log.below hW)) (fun W hW => RE.list_any W z _ _ 16 L (h.log.below hW).row) (fun W hW => llen_any W z _ _ _ L last (h.log.below hW)) h.doc
end
theorem same_nil (w : World) (B d : Nat) (last : Int) (h : Dl w B d [] last) : Calls Try.prog 12 #[.pointer none, .pointer (some ⟨d, 0, none⟩)] w fun e w' => e = .returned (.bool true) ∧ Below w.heap.size w w' :=
  same_any w none none B d [] last (by simp) (fun W _ => events_nil W) (fun W _ => RE.list_nil W) (fun W _ => llen_nil W) h
theorem tag_none (w : World) : Calls Try.prog 9 #[.pointer none, .string ⟨#[97]⟩, .int .i64 1, .agg #[.int .i64 0, .int .i64 0, .int .i64 0, .int .u16 0, .int .i64 0]] w fun e w' => e = .returned (.tuple #[.int .i64 0, .int .i64 2]) ∧ Below w.heap.size w w' :=
  tag_nil ⟨0, ⟨#[97]⟩, 1, 0, 0, 0, 0, 0⟩ w
theorem ev_neq_zero (W : World) : (binOp .neq 41 (.agg #[.int .i64 0, .string ⟨#[]⟩, .int .i64 0, .int .i64 0, .int .i64 0, .int .i64 0, .int .u16 0, .int .i64 0]) (.agg #[.int .i64 0, .string ⟨#[]⟩, .int .i64 0, .int .i64 0, .int .i64 0, .int .i64 0, .int .u16 0, .int .i64 0])).run Try.prog W = .ok (.bool false) W := ev_neq_same evZ W
end Go.Proofs.Ytjifnnloncanpaa

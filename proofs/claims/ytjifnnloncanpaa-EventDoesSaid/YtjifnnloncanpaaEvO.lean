/- Stage 24: events compared; what the walks of EventOrder and EventDoes carry. -/
import Derived.Test.YtjifnnloncanpaaEvH
import Derived.Test.YtjifnnloncanpaaPs
import Derived.Test.YtjifnnloncanpaaFlat
import Derived.Laws.StructEq
namespace Go.Proofs.Ytjifnnloncanpaa
open Go.RowKit
set_option linter.unusedVariables false
set_option linter.unusedSimpArgs false

theorem ev_neq_same (x : Ev) (W : World) : (binOp .neq 41 (.agg #[.int .i64 x.id, .string x.lab, .int .i64 x.loc, .int .i64 x.time, .int .i64 x.hops, .int .i64 x.root, .int .u16 x.boot, .int .i64 x.way]) (.agg #[.int .i64 x.id, .string x.lab, .int .i64 x.loc, .int .i64 x.time, .int .i64 x.hops, .int .i64 x.root, .int .u16 x.boot, .int .i64 x.way])).run Try.prog W = .ok (.bool false) W := by
  go_simp
theorem chg_from {B : Nat} {w w' : World} (h : Below B w w') : Chg (fun k => B ≤ k) w w' := ⟨h.os, h.tape, h.output, h.size, fun k hk hn => h.block k (by omega)⟩
theorem good_ways (x : Ev) (w : World) (B l g b : Nat) (L : List Ev) (last : Int) (h : Lg w B l g b L last) (h0 : 0 ≤ last) (h1 : last ≤ 100000) (hx : x.id = last + 1) :
    (goodL x.lab = false) ∨ (goodL x.lab = true ∧ L.length = 16) ∨ (goodL x.lab = true ∧ L.length < 16) := by
  have := h.len
  cases hg : goodL x.lab
  · exact .inl rfl
  · by_cases h : L.length = 16
    · exact .inr (.inl ⟨rfl, h⟩)
    · exact .inr (.inr ⟨rfl, by omega⟩)
theorem tag_full (x : Ev) (w : World) (B l g b : Nat) (L : List Ev) (last : Int) (h : Lg w B l g b L last) (hg : goodL x.lab = true) (h0 : 0 ≤ last) (h1 : last ≤ 100000) (hx : x.id = last + 1) (hf : L.length = 16) :
    Calls Try.prog 9 #[.pointer (some ⟨l, 0, none⟩), .string x.lab, .int .i64 x.loc, (.agg #[.int .i64 x.time, .int .i64 x.hops, .int .i64 x.root, .int .u16 x.boot, .int .i64 x.way])] w fun e w' => e = .returned (.tuple #[.int .i64 0, .int .i64 6]) ∧ Below w.heap.size w w' := (tag_ways x w B l g b L last h hg h0 h1 hx).mono fun e w' hp => by
  rcases hp with ⟨_, h1, h2⟩ | ⟨h1, _⟩
  · exact ⟨h1, h2⟩
  · omega
theorem tag_any (x : Ev) (w : World) (B l g b : Nat) (L : List Ev) (last : Int) (h : Lg w B l g b L last) (hg : goodL x.lab = true) (h0 : 0 ≤ last) (h1 : last ≤ 100000) (hx : x.id = last + 1) (hf : L.length < 16) :
    Calls Try.prog 9 #[.pointer (some ⟨l, 0, none⟩), .string x.lab, .int .i64 x.loc, (.agg #[.int .i64 x.time, .int .i64 x.hops, .int .i64 x.root, .int .u16 x.boot, .int .i64 x.way])] w (Tagged B l g b L x w) := (tag_ways x w B l g b L last h hg h0 h1 hx).mono fun e w' hp => by
  rcases hp with ⟨h1, _⟩ | ⟨_, h2⟩
  · omega
  · exact h2
theorem take_zero (w : World) (B l g b : Nat) (last : Int) (h : Lg w B l g b [] last) :
    Calls Try.prog 10 #[.pointer (some ⟨l, 0, none⟩)] w fun e w' => e = .returned (.tuple #[(.agg #[.int .i64 0, .string ⟨#[]⟩, .int .i64 0, .int .i64 0, .int .i64 0, .int .i64 0, .int .u16 0, .int .i64 0]), .bool false]) ∧ Lg w' B l g b [] last ∧ Chg (lpart l g b) w w' := (take_any w B l g b _ last h).mono fun e w' hp => by
  rcases hp with ⟨_, h2⟩ | ⟨y, N, h1, _⟩
  · exact h2
  · cases h1

/-- What EventOrder carries: the log, whose events are those of I from the at-th on; I in a row of the law's own. -/
structure Ord (w0 : World) (z : Nat) (I : List Ev) (at' : Nat) (A : Option Addr) (c : Nat) (w : World) : Prop where
  log : Lg w z (z + 2) (z + 1) z (I.drop at') I.length
  row : w.ownsRow (z + 3) 41 8 (.slice A I.length c) I.length (evs I)
  below : Below w0.heap.size w0 w
  old : w0.heap.size ≤ z
  size : z + 3 ≤ w.heap.size
  le : at' ≤ I.length
section
variable {w0 w w' : World} {z at' c : Nat} {I : List Ev} {A : Option Addr}
theorem lpart_lt : ∀ k, lpart (z + 2) (z + 1) z k → k < z + 3 := fun k hk => by
  rcases hk with rfl | rfl | rfl <;> omega
theorem Ord.onto (h : Ord w0 z I at' A c w) (hb : Below w.heap.size w w') : Ord w0 z I at' A c w' :=
  ⟨h.log.below hb, own_keepK h.row hb, h.below.trans (hb.mono h.below.size), h.old, Nat.le_trans h.size hb.size, h.le⟩
theorem Ord.keepRow (h : Ord w0 z I at' A c w) (hc : Chg (lpart (z + 2) (z + 1) z) w w') : w'.ownsRow (z + 3) 41 8 (.slice A I.length c) I.length (evs I) :=
  own_chg h.row hc (fun q hq hp => by
    have h1 := (h.row.lt q hq).1
    have h2 := lpart_lt q hp
    omega)
theorem Ord.keepBelow (h : Ord w0 z I at' A c w) (hc : Chg (lpart (z + 2) (z + 1) z) w w') : Below w0.heap.size w0 w' := lg_below h.log h.below hc h.old
theorem Ord.took (h : Ord w0 z I at' A c w) (hl : Lg w' z (z + 2) (z + 1) z (I.drop (at' + 1)) I.length) (hc : Chg (lpart (z + 2) (z + 1) z) w w') (hlt : at' < I.length) : Ord w0 z I (at' + 1) A c w' :=
  ⟨hl, h.keepRow hc, h.keepBelow hc, h.old, Nat.le_trans h.size hc.size, hlt⟩
theorem Ord.stays (h : Ord w0 z I at' A c w) (hl : Lg w' z (z + 2) (z + 1) z (I.drop at') I.length) (hc : Chg (lpart (z + 2) (z + 1) z) w w') : Ord w0 z I at' A c w' :=
  ⟨hl, h.keepRow hc, h.keepBelow hc, h.old, Nat.le_trans h.size hc.size, h.le⟩
/-- Between Tag and append. -/
structure OrdT (w0 : World) (z : Nat) (I : List Ev) (at' : Nat) (A : Option Addr) (c : Nat) (x : Ev) (w : World) : Prop where
  log : Lg w z (z + 2) (z + 1) z (I.drop at' ++ [x]) x.id
  row : w.ownsRow (z + 3) 41 8 (.slice A I.length c) I.length (evs I)
  below : Below w0.heap.size w0 w
  old : w0.heap.size ≤ z
  size : z + 3 ≤ w.heap.size
  le : at' ≤ I.length
  idl : x.id = (I.length : Int) + 1
theorem Ord.tagged {x : Ev} (h : Ord w0 z I at' A c w) (hl : Lg w' z (z + 2) (z + 1) z (I.drop at' ++ [x]) x.id) (hc : Chg (lpart (z + 2) (z + 1) z) w w') (hx : x.id = (I.length : Int) + 1) : OrdT w0 z I at' A c x w' :=
  ⟨hl, h.keepRow hc, h.keepBelow hc, h.old, Nat.le_trans h.size hc.size, h.le, hx⟩
theorem OrdT.onto {x : Ev} (h : OrdT w0 z I at' A c x w) (hb : Below w.heap.size w w') : OrdT w0 z I at' A c x w' :=
  ⟨h.log.below hb, own_keepK h.row hb, h.below.trans (hb.mono h.below.size), h.old, Nat.le_trans h.size hb.size, h.le, h.idl⟩
theorem OrdT.pushed {x : Ev} {A' : Option Addr} {c' : Nat} (h : OrdT w0 z I at' A c x w) (ho : w'.ownsRow (z + 3) 41 8 (.slice A' (I.length + 1) c') (I.length + 1) (evs I ++ ev8 x)) (hb : Below (z + 3) w w') : Ord w0 z (I ++ [x]) at' A' c' w' := by
  have hl : (I ++ [x]).length = I.length + 1 := by simp
  have he : evs (I ++ [x]) = evs I ++ ev8 x := by rw [evs_append, evs_cons, evs_nil, List.append_nil]
  refine ⟨?_, by rw [hl, he]; exact ho, h.below.trans (hb.mono (by have := h.old; omega)), h.old, Nat.le_trans h.size hb.size, by have := h.le; omega⟩
  rw [List.drop_append_of_le_length h.le, hl, show ((I.length + 1 : Nat) : Int) = x.id by rw [h.idl]; omega]
  exact h.log.chg (chg_from hb) (fun k hk h' => by have := lpart_lt k hk; omega)
theorem Ord.start (hl : Lg w z (z + 2) (z + 1) z [] 0) (hb : Below w0.heap.size w0 w) (ho : w0.heap.size ≤ z) (hs : z + 3 ≤ w.heap.size) : Ord w0 z [] 0 none 0 w :=
  ⟨hl, World.ownsRow_nil _ _ _ _, hb, ho, hs, Nat.le_refl _⟩
end
/-- A law's call as an event. -/
def evC (last : Int) (lab : ByteArray) (loc time hops root boot way : Int) : Ev := ⟨last + 1, lab, loc, time, hops, root, boot, way⟩
end Go.Proofs.Ytjifnnloncanpaa

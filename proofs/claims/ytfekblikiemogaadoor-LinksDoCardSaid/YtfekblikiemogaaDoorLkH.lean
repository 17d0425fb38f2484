/- Package links: Hops, where there is no such node. -/
import Derived.Test.YtfekblikiemogaaDoorLkE
import Derived.Test.YtfekblikiemogaaDoorLkN
namespace Go.Proofs.YtfekblikiemogaaDoor
open Go.RowKit
set_option linter.unusedVariables false

/-- A new row of numbers. -/
def GaveInts (n : Nat) (P : List Int → Prop) (w : World) (e : Ending) (w' : World) : Prop :=
  ∃ b H, e = .returned (.slice (some ⟨b, 0, none⟩) n n) ∧ w.heap.size ≤ b ∧ Holds w' b 3 (ints H) ∧ H.length = n ∧ P H ∧ Below w.heap.size w w'
theorem ints_one : ints [-1] = #[.int .i64 (-1)] := rfl
theorem hops_nil (w : World) (i : Int) (on : Nat) : Calls Tryd.prog 17 #[.pointer none, .int .i64 i, .int .u64 on] w (GaveInts 0 (fun H => H = []) w) := by
  obtain ⟨w0, hw0⟩ : ∃ w0, (w.alloc (.cells #[.pointer none] 24)).alloc (.cells #[.int .i64 (-1)] 3) = w0 := ⟨_, rfl⟩
  have hb1 : Below w.heap.size w w0 := by rw [← hw0]; exact (below_alloc w _).alloc (by simp) _
  have hh1 : Holds w0 (w.heap.size + 1) 3 #[.int .i64 (-1)] := by
    have := Holds.new (w.alloc (.cells #[.pointer none] 24)) 3 #[.int .i64 (-1)]
    rw [size_alloc, hw0] at this
    exact this
  have k0 : Holds w0 w.heap.size 24 #[.pointer none] := by rw [← hw0]; exact (Holds.new w 24 #[.pointer none]).alloc _
  have hrep := repeat_any _ _ 0 (by omega) hh1
  obtain ⟨g, hg⟩ : ∃ g, w0.heap.size = g := ⟨_, rfl⟩
  rw [hg] at hrep
  have HB := Lib.hid hb1
  have c00 := k0.cell 0
  have K0 := Lib.hid k0
  clear hb1 hh1 k0
  go_enter Tryd.func17, Tryd.ntmps17
  go_wp2_with (first
    | (go_at_call 13; refine (len_nil _).mono ?_; rintro e w' ⟨rfl, hw⟩; subst w')
    | (go_at_call 27; refine hrep.mono ?_; rintro e w1 ⟨rfl, hr1, hb1⟩; rw [← hg] at hb1; have K1 := K0.out.below hb1 K0.out.lt; have k1 := (K1.alloc (.cells #[.slice (some ⟨g, 0, none⟩) 0 0] 35)).cell 0; have HR := Lib.hid hr1; have HB1 := Lib.hid hb1; clear K1 hr1 hb1)
    | (go_at_call 26; refine (node_nil _ _).mono ?_; rintro e w' ⟨rfl, hw⟩; subst w'))
  go_ret
  refine ⟨g, [], rfl, ?_, ?_, rfl, rfl, ?_⟩
  · rw [← hg]; exact HB.out.size
  · exact HR.out.alloc _
  · exact (HB.out.trans (HB1.out.mono HB.out.size)).alloc (Nat.le_trans HB.out.size HB1.out.size) _
theorem hops_out (w : World) (B g r : Nat) (M : List Nat) (h : Lk w B g r M) (i : Int) (hi : inB M.length i = false) (on : Nat) : Calls Tryd.prog 17 #[.pointer (some ⟨g, 0, none⟩), .int .i64 i, .int .u64 on] w (GaveInts M.length (fun H => H = List.replicate M.length (-1)) w) := by
  obtain ⟨w0, hw0⟩ : ∃ w0, (w.alloc (.cells #[.pointer (some ⟨g, 0, none⟩)] 24)).alloc (.cells #[.int .i64 (-1)] 3) = w0 := ⟨_, rfl⟩
  have hb1 : Below w.heap.size w w0 := by rw [← hw0]; exact (below_alloc w _).alloc (by simp) _
  have hh1 : Holds w0 (w.heap.size + 1) 3 #[.int .i64 (-1)] := by
    have := Holds.new (w.alloc (.cells #[.pointer (some ⟨g, 0, none⟩)] 24)) 3 #[.int .i64 (-1)]
    rw [size_alloc, hw0] at this
    exact this
  have k0 : Holds w0 w.heap.size 24 #[.pointer (some ⟨g, 0, none⟩)] := by rw [← hw0]; exact (Holds.new w 24 #[.pointer (some ⟨g, 0, none⟩)]).alloc _
  have hrep := repeat_any _ _ M.length h.le hh1
  obtain ⟨q, hq⟩ : ∃ q, w0.heap.size = q := ⟨_, rfl⟩
  rw [hq] at hrep
  have hlen := len_lk w0 B g r M (h.below hb1)
  have hnode := fun (W : World) (L : Lk W B g r M) => node_lk W B g r M L i
  rw [hi] at hnode
  have HB := Lib.hid hb1
  have c00 := k0.cell 0
  have K0 := Lib.hid k0
  have HL := Lib.hid (h.below hb1)
  clear hb1 hh1 k0 h
  go_enter Tryd.func17, Tryd.ntmps17
  go_wp2_with (first
    | (go_at_call 13; refine hlen.mono ?_; rintro e w' ⟨rfl, hw⟩; subst w')
    | (go_at_call 27; refine hrep.mono ?_; rintro e w1 ⟨rfl, hr1, hb1⟩; rw [← hq] at hb1; have K1 := K0.out.below hb1 K0.out.lt; have k1 := (K1.alloc (.cells #[.slice (some ⟨q, 0, none⟩) M.length M.length] 35)).cell 0; have hno := hnode _ ((HL.out.below hb1).below (below_alloc w1 (.cells #[.slice (some ⟨q, 0, none⟩) M.length M.length] 35))); have HR := Lib.hid hr1; have HB1 := Lib.hid hb1; clear K1 hr1 hb1)
    | (go_at_call 26; refine hno.mono ?_; rintro e w' ⟨rfl, hw⟩; subst w'))
  go_ret
  refine ⟨q, _, rfl, ?_, HR.out.alloc _, by simp, rfl, ?_⟩
  · rw [← hq]; exact HB.out.size
  · exact (HB.out.trans (HB1.out.mono HB.out.size)).alloc (Nat.le_trans HB.out.size HB1.out.size) _
end Go.Proofs.YtfekblikiemogaaDoor

/- The document's node: what it tells of its root, how it is laid. -/
import Derived.Test.YtgmeakcfiaopcaaGreatElG
namespace Go.Proofs.YtgmeakcfiaopcaaGreat
open Go.RowKit
set_option linter.unusedVariables false
set_option linter.unusedSimpArgs false

/-- What the document tells of a root's mark. -/
theorem rmark_any (w : World) (gm : Nat) (s : St) (h : Dn w gm s) (hi : Inv s) : Calls Tryz.prog 48 #[.pointer (some ⟨gm, 0, none⟩)] w fun e w' => e = .returned (.tuple #[.int .u16 (saidV s).1, .int .u16 (saidV s).2, .bool (saidB s)]) ∧ Below w.heap.size w w' := by
  obtain ⟨c0, _, _, c3, c4, c5, _, _⟩ := h.cells
  obtain ⟨m0, m1⟩ := hi.me
  obtain ⟨r0, r1⟩ := hi.root
  obtain ⟨q0, q1⟩ := hi.seq
  by_cases hn : s.root < 0
  · have d0 : decide (s.root < 0) = true := decide_eq_true hn
    have hV : saidV s = (0, 0) := by unfold saidV; rw [if_neg (by omega), if_pos (by omega)]
    have hB : saidB s = false := by unfold saidB; exact decide_eq_false (by omega)
    rw [hV, hB]
    clear h hi hV hB hn
    go_enter Tryz.func48, Tryz.ntmps48
    go_wp2
    go_ret3
    exact ⟨rfl, Below.refl _ _⟩
  have d0 : decide (s.root < 0) = false := decide_eq_false hn
  by_cases hr : s.root = s.me
  · have d1 : (s.root == s.me) = true := by simp [hr]
    have hV : saidV s = (s.boot, s.seq) := by unfold saidV; rw [if_pos hr]
    have hB : saidB s = decide (0 < s.seq) := by
      unfold saidB
      by_cases e : 0 < s.seq
      · rw [decide_eq_true e]
        exact decide_eq_true (.inl ⟨hr, by omega⟩)
      · rw [decide_eq_false e]
        exact decide_eq_false (by omega)
    rw [hV, hB]
    clear h hi hV hB hn hr
    cases d2 : decide (0 < s.seq) <;>
    · go_enter Tryz.func48, Tryz.ntmps48
      go_wp2
      go_quiet (fail)
      go_wp2
      go_quiet (fail)
      go_wp2
      go_ret3
      exact ⟨rfl, below_drewN (below_drewN (Below.refl _ _) _) _⟩
  · have d1 : (s.root == s.me) = false := by simp [hr]
    obtain ⟨⟨v0, v1⟩, hp⟩ := hi.knows (by omega) hr
    obtain ⟨i, hri⟩ : ∃ i : Nat, s.root = i := ⟨s.root.toNat, by omega⟩
    have hi64 : i < 64 := by omega
    have hi64' : (i : Int) < 64 := by omega
    obtain ⟨a1, p, a2, a3, a4⟩ := h.at hi64
    have hp' := hp
    rw [hri] at hp'
    have e := a4 _ hp'
    subst e
    have hV : saidV s = (v0, v1) := by unfold saidV; rw [if_neg hr, if_neg (by omega), hp]; rfl
    have hB : saidB s = true := by unfold saidB; exact decide_eq_true (.inr ⟨hr, by omega⟩)
    rw [hV, hB]
    simp only [] at a2 a3
    rw [hri] at c5 d0 d1
    clear h hi hV hB hn hr hp hp' a4 a1 hri
    go_enter Tryz.func48, Tryz.ntmps48
    go_wp2
    go_quiet (fail)
    go_wp2
    go_quiet (fail)
    go_wp2
    go_ret3
    exact ⟨rfl, below_drewN (below_drewN (Below.refl _ _) _) _⟩
/-- The cells of a node of which nothing is known. -/
def zeroD : List Value := [.int .i64 0, .int .i64 0, .int .i64 0, .int .u16 0, .int .u16 0, .int .i64 0, .int .i64 0, .int .i64 0] ++ (List.replicate 64 (.bool false) ++ List.replicate 128 (.int .u16 0))
theorem zeroD_len : zeroD.toArray.size = 200 := by decide +kernel
set_option maxRecDepth 100000 in
theorem enode_zero : Tryz.t111.zero = some (.agg zeroD.toArray) := by kernel_rfl
def newC (me tmo ign x : Int) : Array Value := ((((zeroD.toArray.setIfInBounds 0 (.int .i64 me)).setIfInBounds 1 (.int .i64 tmo)).setIfInBounds 2 (.int .i64 ign)).setIfInBounds 3 (.int .u16 x)).setIfInBounds 5 (.int .i64 (-1))
theorem einfo_of {t : TypeId} {i : TypeInfo} (h : ∀ w : World, (typeInfo t).run Tryz.prog w = .ok i w) (w : World) : Tryz.prog.info? t = some i := by
  have := h w
  unfold typeInfo at this
  rcases hx : Tryz.prog.info? t with _ | i'
  · simp [hx] at this
  · simp [hx] at this
    rw [this]
theorem zero_at : ∃ Z, Tryz.t111.zero = some (.agg Z) ∧ Z = zeroD.toArray := ⟨_, enode_zero, rfl⟩
theorem build_node (me tmo ign x : Int) (w : World) : (Instr.build 111 #[(0, .int .i64 me), (1, .int .i64 tmo), (2, .int .i64 ign), (3, .int .u16 x), (5, .int .i64 (-1))]).run Tryz.prog w = .ok (.agg (newC me tmo ign x)) w := by
  refine run_build w _ _ _ ?_
  have h1 := einfo_of Tryz.typeInfo111 w
  have h2 := einfo_of Tryz.typeInfo3 w
  have h3 := einfo_of Tryz.typeInfo39 w
  have h4 := einfo_of Tryz.typeInfo108 w
  have h5 := einfo_of Tryz.typeInfo109 w
  have hs := zeroD_len
  unfold Program.built
  rw [h1, Tryz.underlying111]
  have s1 : Tryz.t3.size = 1 := rfl
  have s2 : Tryz.t39.size = 1 := rfl
  unfold newC
  obtain ⟨Z, hz, hzz⟩ := zero_at
  rw [← hzz] at hs ⊢
  clear hzz
  simp [hz, h2, h3, h4, h5, s1, s2]
  simp [Instr.fill, Value.cells, hs]
theorem box_node (C : Array Value) (w : World) : (Instr.box 111 (.agg C)).run Tryz.prog w = .ok (.pointer (some ⟨w.heap.size, 0, none⟩)) (w.alloc (.cells C 111)) := by
  simp [Instr.box, newVar, Value.cells, go_sem]
section
variable {P : Program}
theorem eList_built {ops : Array Oper} {rest : List Oper} {o : Oper} {a : Act} {w : World} {Q : Exit → Act → World → Prop} (hg : o.guard = none) (t : TypeId) (parts : Array (Nat × Operand)) (ho : o.op = .build t parts)
    (vals : Array (Nat × Value)) (hv : (parts.map fun (i, x) => (i, a.eval x)) = vals) {cells : Array Value} (hr : (Instr.build t vals).run P w = .ok (.agg cells) w) (h : wpList P ops Q rest (a.put o.dst (.agg cells)) w) : wpList P ops Q (o :: rest) a w :=
  wpList_plain hg fun _ hK => by
    unfold Oper.wp execOp
    simp only [ho, hv, Sem.run_bind, hr, Result.andThen_ok]
    exact hK _ _ h
theorem eList_boxed {ops : Array Oper} {rest : List Oper} {o : Oper} {a : Act} {w : World} {Q : Exit → Act → World → Prop} (hg : o.guard = none) (t : TypeId) (x : Operand) (ho : o.op = .box t x)
    (v : Value) (hv : a.eval x = v) {u : Value} {w' : World} (hr : (Instr.box t v).run P w = .ok u w') (h : wpList P ops Q rest (a.put o.dst u) w') : wpList P ops Q (o :: rest) a w :=
  wpList_plain hg fun _ hK => by
    unfold Oper.wp execOp
    simp only [ho, hv, Sem.run_bind, hr, Result.andThen_ok]
    exact hK _ _ h
end
theorem zeroD_at : (∀ i, i < 64 → zeroD[8 + i]? = some (.bool false)) ∧ (∀ i, i < 128 → zeroD[72 + i]? = some (.int .u16 0)) := by
  refine ⟨fun i hi => ?_, fun i hi => ?_⟩
  · unfold zeroD
    rw [List.getElem?_append_right (by simp), List.getElem?_append_left (by simp; omega), List.getElem?_replicate]
    simp
    omega
  · unfold zeroD
    rw [List.getElem?_append_right (by simp; omega), List.getElem?_append_right (by simp; omega), List.getElem?_replicate]
    simp
    omega
theorem zeroD_low : zeroD.toArray[4]? = some (.int .u16 0) ∧ zeroD.toArray[6]? = some (.int .i64 0) ∧ zeroD.toArray[7]? = some (.int .i64 0) := by
  refine ⟨?_, ?_, ?_⟩ <;> (rw [List.getElem?_toArray]; unfold zeroD; rw [List.getElem?_append_left (by decide)]; rfl)
theorem Dn.new (w : World) (me tmo ign x : Int) : Dn (w.alloc (.cells (newC me tmo ign x) 111)) w.heap.size (newS me tmo ign x) := by
  have hs := zeroD_len
  refine ⟨_, Holds.new w _ _, by unfold newC; simp only [Array.size_setIfInBounds]; exact hs, ⟨?_, ?_, ?_, ?_, ?_, ?_, ?_, ?_⟩, fun i hi => ?_⟩
  all_goals unfold newC
  · rw [Array.getElem?_setIfInBounds_ne (by decide), Array.getElem?_setIfInBounds_ne (by decide), Array.getElem?_setIfInBounds_ne (by decide), Array.getElem?_setIfInBounds_ne (by decide), Array.getElem?_setIfInBounds_self_of_lt (by omega)]
    rfl
  · rw [Array.getElem?_setIfInBounds_ne (by decide), Array.getElem?_setIfInBounds_ne (by decide), Array.getElem?_setIfInBounds_ne (by decide), Array.getElem?_setIfInBounds_self_of_lt (by simp only [Array.size_setIfInBounds]; omega)]
    rfl
  · rw [Array.getElem?_setIfInBounds_ne (by decide), Array.getElem?_setIfInBounds_ne (by decide), Array.getElem?_setIfInBounds_self_of_lt (by simp only [Array.size_setIfInBounds]; omega)]
    rfl
  · rw [Array.getElem?_setIfInBounds_ne (by decide), Array.getElem?_setIfInBounds_self_of_lt (by simp only [Array.size_setIfInBounds]; omega)]
    rfl
  · rw [Array.getElem?_setIfInBounds_ne (by decide), Array.getElem?_setIfInBounds_ne (by decide), Array.getElem?_setIfInBounds_ne (by decide), Array.getElem?_setIfInBounds_ne (by decide), Array.getElem?_setIfInBounds_ne (by decide)]
    exact zeroD_low.1
  · rw [Array.getElem?_setIfInBounds_self_of_lt (by simp only [Array.size_setIfInBounds]; omega)]
    rfl
  · rw [Array.getElem?_setIfInBounds_ne (by decide), Array.getElem?_setIfInBounds_ne (by decide), Array.getElem?_setIfInBounds_ne (by decide), Array.getElem?_setIfInBounds_ne (by decide), Array.getElem?_setIfInBounds_ne (by decide)]
    exact zeroD_low.2.1
  · rw [Array.getElem?_setIfInBounds_ne (by decide), Array.getElem?_setIfInBounds_ne (by decide), Array.getElem?_setIfInBounds_ne (by decide), Array.getElem?_setIfInBounds_ne (by decide), Array.getElem?_setIfInBounds_ne (by decide)]
    exact zeroD_low.2.2
  · have hne : ∀ m, 8 ≤ m → (((((zeroD.toArray.setIfInBounds 0 (.int .i64 me)).setIfInBounds 1 (.int .i64 tmo)).setIfInBounds 2 (.int .i64 ign)).setIfInBounds 3 (.int .u16 x)).setIfInBounds 5 (.int .i64 (-1)))[m]? = zeroD[m]? := fun m hm => by
      rw [Array.getElem?_setIfInBounds_ne (by omega), Array.getElem?_setIfInBounds_ne (by omega), Array.getElem?_setIfInBounds_ne (by omega), Array.getElem?_setIfInBounds_ne (by omega), Array.getElem?_setIfInBounds_ne (by omega), List.getElem?_toArray]
    rw [hne _ (by omega), hne _ (by omega), hne _ (by omega)]
    refine ⟨zeroD_at.1 i hi, (0, 0), zeroD_at.2 i (by omega), ?_, fun q hq => by cases hq⟩
    rw [show 136 + i = 72 + (64 + i) by omega]
    exact zeroD_at.2 _ (by omega)
set_option maxRecDepth 100000 in
theorem rnew_any (w : World) (me tmo ign x : Int) : Calls Tryz.prog 30 #[.int .i64 me, .int .i64 tmo, .int .i64 ign, .int .u16 x] w fun e w' => e = .returned (.pointer (some ⟨w.heap.size, 0, none⟩)) ∧ Dn w' w.heap.size (newS me tmo ign x) ∧ Below w.heap.size w w' := by
  have hfin : Dn (w.alloc (.cells (newC me tmo ign x) 111)) w.heap.size (newS me tmo ign x) ∧ Below w.heap.size w (w.alloc (.cells (newC me tmo ign x) 111)) := ⟨Dn.new w me tmo ign x, below_alloc _ _⟩
  have hb := build_node me tmo ign x
  have hx := box_node (newC me tmo ign x)
  obtain ⟨C, hC⟩ : ∃ C, newC me tmo ign x = C := ⟨_, rfl⟩
  rw [hC] at hx hfin
  simp only [hC] at hb
  have HF := Lib.hid hfin
  have HB := Lib.hid hb
  have HX := Lib.hid hx
  clear hfin hb hx hC
  go_enter Tryz.func30, Tryz.ntmps30
  go_wp2_with (first
    | (refine eList_built rfl 111 _ rfl #[(0, .int .i64 me), (1, .int .i64 tmo), (2, .int .i64 ign), (3, .int .u16 x), (5, .int .i64 (-1))] (by simp [Act.eval, Act.put]) (HB.out _) ?_)
    | (refine eList_boxed rfl 111 _ rfl (.agg C) (by simp [Act.eval, Act.put]) (HX.out _) ?_))
  go_ret
  exact ⟨rfl, HF.out⟩
end Go.Proofs.YtgmeakcfiaopcaaGreat

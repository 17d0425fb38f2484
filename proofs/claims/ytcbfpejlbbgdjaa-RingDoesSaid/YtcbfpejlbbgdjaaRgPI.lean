/- Package ring: Push, Pop, Clear, of one type of things. -/
import Derived.Test.YtcbfpejlbbgdjaaRgI
namespace Go.Proofs.Ytcbfpejlbbgdjaa.RI
open Go.RowKit
set_option linter.unusedVariables false
set_option linter.unusedSimpArgs false

theorem push_full (w : World) (B g b room : Nat) (L : List Int) (x : Int) (h : Rg w B g b room L) (hf : L.length = room) :
    Calls Try.prog 11 #[.pointer (some ⟨g, 0, none⟩), (Value.int .i64) x] w fun e w' => e = .returned (.int .i64 6) ∧ Below w.heap.size w w' := by
  obtain ⟨first, zs, h⟩ := h
  have c2 := h.ptr.cell 2
  have c0 := h.ptr.cell 0
  rw [hf] at c2
  clear h hf
  go_enter Try.func11, Try.ntmps11
  go_wp2
  go_quiet (fail)
  go_wp2
  go_ret
  exact ⟨rfl, below_drewN (Below.refl _ _) _⟩

/-- Behind a Push that has room. -/
def Pushed (B g b room : Nat) (L : List Int) (x : Int) (w : World) (e : Ending) (w' : World) : Prop := e = .returned (.int .i64 0) ∧ Rg w' B g b room (L ++ [x]) ∧ Chg (part g b) w w'
set_option maxHeartbeats 1000000 in
theorem push_any (w : World) (B g b room : Nat) (L : List Int) (x : Int) (h : Rg w B g b room L) (hlt : L.length < room) :
    Calls Try.prog 11 #[.pointer (some ⟨g, 0, none⟩), (Value.int .i64) x] w (Pushed B g b room L x w) := by
  obtain ⟨first, zs, h⟩ := h
  have c2 := h.ptr.cell 2
  have c0 := h.ptr.cell 0
  have hle := h.le
  have hcell := fun W (hW : Below w.heap.size w W) => cell_any W g b room first _ (h.below hW).ptr h.pos h.le h.fst L.length (by omega)
  have hm : (first + L.length) % room < room := mod_lt' _ h.pos
  have hend : ∀ W, Below w.heap.size w W → Pushed B g b room L x w (.returned (.int .i64 0)) ((W.setCell ⟨b, (first + L.length) % room, none⟩ ((Value.int .i64) x)).setCell ⟨g, 2, none⟩ (.int .i64 ((L.length : Int) + 1))) := fun W hW => by
    have hd := h.below hW
    have hb : Chg (part g b) w W := Chg.of_below _ hW
    refine ⟨rfl, ⟨first, zs.set ((first + L.length) % room) x, h.oldg, h.oldb, h.pos, h.le, h.fst, by rw [List.length_append, List.length_singleton]; omega, by simpa using h.zl, ?_, ?_, ring_push h.fst h.zl hlt h.at'⟩,
      (hb.trans (Chg.set (S := part g b) _ b _ _ (.inr rfl)) (fun _ _ h => h)).trans (Chg.set (S := part g b) _ g 2 _ (.inl rfl)) (fun _ _ h => h)⟩
    · have := (hd.ptr.far h.ne ((Value.int .i64) x) (i := (first + L.length) % room)).put 2 (.int .i64 ((L.length : Int) + 1))
      simpa using this
    · have := (hd.row.put ((first + L.length) % room) ((Value.int .i64) x)).far (fun e => h.ne e.symm) (.int .i64 ((L.length : Int) + 1)) (i := 2)
      rw [cells_set] at this
      exact this
  have HEnd := Lib.hid hend
  have HC := Lib.hid hcell
  have HR := Lib.hid h.row
  have HPt := Lib.hid h.ptr
  have HN := Lib.hid h.ne
  obtain ⟨n, hn⟩ : ∃ n, L.length = n := ⟨_, rfl⟩
  rw [hn] at c2 HC hm HEnd hlt HPt
  obtain ⟨I, hI⟩ : ∃ I, (first + n) % room = I := ⟨_, rfl⟩
  rw [hI] at HC hm HEnd
  have d1 : decide ((room : Int) ≤ (n : Int)) = false := decide_eq_false (by omega)
  have e1 := IntWalk.i64_in ((n : Int) + 1) (by omega)
  have hz := h.zl
  clear h hend hn hI hcell
  go_enter Try.func11, Try.ntmps11
  go_wp2
  go_quiet (fail)
  go_upto_region 5 with (fail)
  have hb0 : Below w.heap.size w (w.drewN nq).drew := below_drewN (below_drewN (Below.refl _ _) nq) 1
  refine region_turns (fun (w' : World) => w'.cell? ⟨g, 0, none⟩ = some (.slice (some ⟨b, 0, none⟩) room room) ∧ w'.cell? ⟨g, 2, none⟩ = some (.int .i64 (n : Int))) (fun j => decide (12 ≤ j)) (by kernel_rfl) (⟨c0, c2⟩) (fun hS => ?_)
  refine Turns.take hS 0 _ rfl (by kernel_rfl) (by kernel_rfl) (by kernel_rfl) (by kernel_rfl) (fun _ _ _ h => h) (by rfl) (fun w' hS' => by (try dsimp only at hS'); go_split_ands; go_simp; (try with_reducible rfl)) ?_
  simp only [Act.put, List.getElem_toArray, List.getElem_cons_succ, List.getElem_cons_zero, List.setIfInBounds_toArray, List.set_cons_zero, List.set_cons_succ]
  refine Turns.take hS 1 _ rfl (by kernel_rfl) (by kernel_rfl) (by kernel_rfl) (by kernel_rfl) (fun _ _ _ h => h) (by rfl) (fun w' hS' => by (try dsimp only at hS'); go_split_ands; go_simp; (try with_reducible rfl)) ?_
  simp only [Act.put, List.getElem_toArray, List.getElem_cons_succ, List.getElem_cons_zero, List.setIfInBounds_toArray, List.set_cons_zero, List.set_cons_succ]
  refine Turns.take hS 2 _ rfl (by kernel_rfl) (by kernel_rfl) (by kernel_rfl) (by kernel_rfl) (fun _ _ _ h => h) (by rfl) (fun w' hS' => by (try dsimp only at hS'); go_split_ands; go_simp; (try with_reducible rfl)) ?_
  simp only [Act.put, List.getElem_toArray, List.getElem_cons_succ, List.getElem_cons_zero, List.setIfInBounds_toArray, List.set_cons_zero, List.set_cons_succ]
  refine Turns.take hS 3 _ rfl (by kernel_rfl) (by kernel_rfl) (by kernel_rfl) (by kernel_rfl) (fun _ _ _ h => h) (by rfl) (fun w' hS' => by (try dsimp only at hS'); go_split_ands; go_simp; (try with_reducible rfl)) ?_
  simp only [Act.put, List.getElem_toArray, List.getElem_cons_succ, List.getElem_cons_zero, List.setIfInBounds_toArray, List.set_cons_zero, List.set_cons_succ]
  refine Turns.take hS 4 _ rfl (by kernel_rfl) (by kernel_rfl) (by kernel_rfl) (by kernel_rfl) (fun _ _ _ h => h) (by rfl) (fun w' hS' => by (try dsimp only at hS'); go_split_ands; go_simp; (try with_reducible rfl)) ?_
  simp only [Act.put, List.getElem_toArray, List.getElem_cons_succ, List.getElem_cons_zero, List.setIfInBounds_toArray, List.set_cons_zero, List.set_cons_succ]
  refine Turns.take hS 5 _ rfl (by kernel_rfl) (by kernel_rfl) (by kernel_rfl) (by kernel_rfl) (fun _ _ _ h => h) (by rfl) (fun w' hS' => by (try dsimp only at hS'); go_split_ands; go_simp; (try with_reducible rfl)) ?_
  simp only [Act.put, List.getElem_toArray, List.getElem_cons_succ, List.getElem_cons_zero, List.setIfInBounds_toArray, List.set_cons_zero, List.set_cons_succ]
  refine Turns.take hS 6 _ rfl (by kernel_rfl) (by kernel_rfl) (by kernel_rfl) (by kernel_rfl) (fun _ _ _ h => h) (by rfl) (fun w' hS' => by (try dsimp only at hS'); go_split_ands; go_simp; (try with_reducible rfl)) ?_
  simp only [Act.put, List.getElem_toArray, List.getElem_cons_succ, List.getElem_cons_zero, List.setIfInBounds_toArray, List.set_cons_zero, List.set_cons_succ]
  refine Turns.take hS 7 _ rfl (by kernel_rfl) (by kernel_rfl) (by kernel_rfl) (by kernel_rfl) (fun _ _ _ h => h) (by rfl) (fun w' hS' => by (try dsimp only at hS'); go_split_ands; go_simp; (try with_reducible rfl)) ?_
  simp only [Act.put, List.getElem_toArray, List.getElem_cons_succ, List.getElem_cons_zero, List.setIfInBounds_toArray, List.set_cons_zero, List.set_cons_succ]
  refine Turns.take hS 8 _ rfl (by kernel_rfl) (by kernel_rfl) (by kernel_rfl) (by kernel_rfl) (fun _ _ _ h => h) (by rfl) (fun w' hS' => by (try dsimp only at hS'); go_split_ands; go_simp; (try with_reducible rfl)) ?_
  simp only [Act.put, List.getElem_toArray, List.getElem_cons_succ, List.getElem_cons_zero, List.setIfInBounds_toArray, List.set_cons_zero, List.set_cons_succ]
  refine Turns.take hS 10 _ rfl (by kernel_rfl) (by kernel_rfl) (by kernel_rfl) (by kernel_rfl) (fun _ _ _ h => h) (by rfl) (fun w' hS' => by (try dsimp only at hS'); go_split_ands; go_simp; (try with_reducible rfl)) ?_
  simp only [Act.put, List.getElem_toArray, List.getElem_cons_succ, List.getElem_cons_zero, List.setIfInBounds_toArray, List.set_cons_zero, List.set_cons_succ]
  refine Turns.next 9 rfl (by kernel_rfl) (by rfl) (fun K hK => ?_)
  go_simp
  refine (HC.out _ hb0).mono ?_
  rintro e w1 ⟨rfl, m1, rfl⟩
  refine hK.out _ _ (show (fun (w' : World) => w'.cell? ⟨g, 0, none⟩ = some (.slice (some ⟨b, 0, none⟩) room room) ∧ w'.cell? ⟨g, 2, none⟩ = some (.int .i64 (n : Int))) _ from ⟨c0, c2⟩) ?_
  clear hK K hS
  have hS := (show (fun (w' : World) => w'.cell? ⟨g, 0, none⟩ = some (.slice (some ⟨b, 0, none⟩) room room) ∧ w'.cell? ⟨g, 2, none⟩ = some (.int .i64 (n : Int))) _ from ⟨c0, c2⟩)
  refine Turns.take hS 11 _ rfl (by kernel_rfl) (by kernel_rfl) (by kernel_rfl) (by kernel_rfl) (fun _ _ _ h => h) (by rfl) (fun w' hS' => by (try dsimp only at hS'); go_split_ands; go_simp; (try with_reducible rfl)) ?_
  simp only [Act.put, List.getElem_toArray, List.getElem_cons_succ, List.getElem_cons_zero, List.setIfInBounds_toArray, List.set_cons_zero, List.set_cons_succ]
  refine Turns.rest (late_done (by kernel_rfl)) ?_
  refine any_tail 12 (by rfl) (by kernel_rfl) ?_
  simp only [List.drop_succ_cons, List.drop_zero]
  clear hS
  have hb1 := below_drewN hb0 m1
  obtain ⟨W, hW⟩ : ∃ W, ((w.drewN nq).drew.drewN m1) = W := ⟨_, rfl⟩
  rw [hW] at hb1 ⊢
  have p1 := HPt.out.below hb1 HPt.out.lt
  have r1 := HR.out.below hb1 HR.out.lt
  have fr := r1.soft I
  have fp := (p1.far HN.out ((Value.int .i64) x) (i := I)).soft 2
  have cp := (p1.far HN.out ((Value.int .i64) x) (i := I)).cell 2
  have cr := r1.cell I
  obtain ⟨z, hzI⟩ : ∃ z, zs[I]? = some z := ⟨_, List.getElem?_eq_getElem (by omega)⟩
  rw [cells_at hzI] at cr
  have HB := Lib.hid hb1
  clear p1 r1 hb1 hW hb0 c0 c2 hzI
  go_wp2
  go_ret
  exact HEnd.out _ HB.out

theorem pop_none (w : World) (B g b room : Nat) (h : Rg w B g b room []) :
    Calls Try.prog 10 #[.pointer (some ⟨g, 0, none⟩)] w fun e w' => e = .returned (.tuple #[(Value.int .i64) 0, .bool false]) ∧ w' = w := by
  have hl := len_any w B g b room [] h
  clear h
  go_enter Try.func10, Try.ntmps10
  go_wp2_with (go_at_call 12; refine hl.mono ?_; rintro e w' ⟨rfl, rfl⟩)
  go_ret2
  exact ⟨rfl, rfl⟩
/-- Behind a Pop of one. -/
def Popped (B g b room : Nat) (x : Int) (L : List Int) (w : World) (e : Ending) (w' : World) : Prop := e = .returned (.tuple #[(Value.int .i64) x, .bool true]) ∧ Rg w' B g b room L ∧ Chg (part g b) w w'
theorem pop_end {W : World} {B g b room first : Nat} {zs L : List Int} {x : Int} (h : R0 W B g b room first zs (x :: L)) {W1 : World} (h1 : R0 W1 B g b room first zs (x :: L)) (hb : Chg (part g b) W W1) (m : Nat) :
    Popped B g b room x L W (.returned (.tuple #[(Value.int .i64) x, .bool true])) (((((W1.setCell ⟨b, first, none⟩ ((Value.int .i64) 0)).drewN m).setCell ⟨g, 1, none⟩ (.int .i64 ((first + 1) % room : Nat))).setCell ⟨g, 2, none⟩ (.int .i64 (L.length : Int)))) := by
  have hm : (first + 1) % room < room := mod_lt' _ h.pos
  have hlen := h.len
  rw [List.length_cons] at hlen
  have hc1 : Chg (part g b) W ((W1.setCell ⟨b, first, none⟩ ((Value.int .i64) 0)).drewN m) := (hb.trans (Chg.set (S := part g b) _ b _ _ (.inr rfl)) (fun _ _ h => h)).drewN m
  refine ⟨rfl, ⟨(first + 1) % room, zs.set first 0, h.oldg, h.oldb, h.pos, h.le, hm, by omega, by simpa using h.zl, ?_, ?_, (ring_pop h.fst h.len h.at').2⟩,
    (hc1.trans (Chg.set (S := part g b) _ g 1 _ (.inl rfl)) (fun _ _ h => h)).trans (Chg.set (S := part g b) _ g 2 _ (.inl rfl)) (fun _ _ h => h)⟩
  · have := (((h1.ptr.far h.ne ((Value.int .i64) 0) (i := first)).drewN m).put 1 (.int .i64 ((first + 1) % room : Nat))).put 2 (.int .i64 (L.length : Int))
    simpa using this
  · have := (((h1.row.put first ((Value.int .i64) 0)).drewN m).far (fun e => h.ne e.symm) (.int .i64 ((first + 1) % room : Nat)) (i := 1)).far (fun e => h.ne e.symm) (.int .i64 (L.length : Int)) (i := 2)
    rw [cells_set] at this
    exact this
set_option maxHeartbeats 1000000 in
theorem pop_any (w : World) (B g b room : Nat) (x : Int) (L : List Int) (h : Rg w B g b room (x :: L)) :
    Calls Try.prog 10 #[.pointer (some ⟨g, 0, none⟩)] w (Popped B g b room x L w) := by
  have hlen := len_any w B g b room (x :: L) h
  obtain ⟨first, zs, h⟩ := h
  have hle := h.le
  have hm : (first + 1) % room < room := mod_lt' _ h.pos
  have hx := (ring_pop (z := 0) h.fst h.len h.at').1
  have hend := fun (m1 m : Nat) => pop_end h (h.drewN m1) (Chg.of_below _ (below_drewN (Below.refl _ _) m1)) m
  have hcell := fun (m1 : Nat) => cell_any ((w.drewN m1).setCell ⟨b, first, none⟩ ((Value.int .i64) 0)) g b room first _ ((h.drewN m1).ptr.far h.ne _) h.pos h.le h.fst 1 (by omega)
  have HEnd := Lib.hid hend
  have HCell := Lib.hid hcell
  have c0 := h.ptr.cell 0
  have c1 := h.ptr.cell 1
  have cx := h.row.cell first
  rw [cells_at hx] at cx
  have fx := h.row.soft first
  have hfr := h.fst
  have HP := Lib.hid h.ptr
  have HN := Lib.hid h.ne
  have hne : ((L.length : Int) + 1 == 0) = false := by simp; omega
  rw [List.length_cons] at hlen HP
  obtain ⟨n, hn⟩ : ∃ n, L.length = n := ⟨_, rfl⟩
  have hnr : n < room := by have := h.len; rw [List.length_cons] at this; omega
  rw [hn] at hlen hne HEnd HP
  have e1 : IntKind.i64.wrap (((n + 1 : Nat) : Int) - 1) = (n : Int) := by
    rw [IntWalk.i64_in _ (by omega)]
    omega
  clear h hend hn hcell hx
  go_enter Try.func10, Try.ntmps10
  go_wp2_with (go_at_call 12; refine hlen.mono ?_; rintro e w' ⟨rfl, rfl⟩)
  go_quiet (fail)
  go_upto_region 5 with (fail)
  refine region_turns (fun (w' : World) => w'.cell? ⟨g, 0, none⟩ = some (.slice (some ⟨b, 0, none⟩) room room) ∧ w'.cell? ⟨g, 1, none⟩ = some (.int .i64 (first : Int))) (fun j => decide (10 ≤ j)) (by kernel_rfl) (⟨c0, c1⟩) (fun hS => ?_)
  refine Turns.take hS 0 _ rfl (by kernel_rfl) (by kernel_rfl) (by kernel_rfl) (by kernel_rfl) (fun _ _ _ h => h) (by rfl) (fun w' hS' => by (try dsimp only at hS'); go_split_ands; go_simp; (try with_reducible rfl)) ?_
  simp only [Act.put, List.getElem_toArray, List.getElem_cons_succ, List.getElem_cons_zero, List.setIfInBounds_toArray, List.set_cons_zero, List.set_cons_succ]
  refine Turns.take hS 1 _ rfl (by kernel_rfl) (by kernel_rfl) (by kernel_rfl) (by kernel_rfl) (fun _ _ _ h => h) (by rfl) (fun w' hS' => by (try dsimp only at hS'); go_split_ands; go_simp; (try with_reducible rfl)) ?_
  simp only [Act.put, List.getElem_toArray, List.getElem_cons_succ, List.getElem_cons_zero, List.setIfInBounds_toArray, List.set_cons_zero, List.set_cons_succ]
  refine Turns.take hS 2 _ rfl (by kernel_rfl) (by kernel_rfl) (by kernel_rfl) (by kernel_rfl) (fun _ _ _ h => h) (by rfl) (fun w' hS' => by (try dsimp only at hS'); go_split_ands; go_simp; (try with_reducible rfl)) ?_
  simp only [Act.put, List.getElem_toArray, List.getElem_cons_succ, List.getElem_cons_zero, List.setIfInBounds_toArray, List.set_cons_zero, List.set_cons_succ]
  refine Turns.take hS 3 _ rfl (by kernel_rfl) (by kernel_rfl) (by kernel_rfl) (by kernel_rfl) (fun _ _ _ h => h) (by rfl) (fun w' hS' => by (try dsimp only at hS'); go_split_ands; go_simp; (try with_reducible rfl)) ?_
  simp only [Act.put, List.getElem_toArray, List.getElem_cons_succ, List.getElem_cons_zero, List.setIfInBounds_toArray, List.set_cons_zero, List.set_cons_succ]
  refine Turns.take hS 4 _ rfl (by kernel_rfl) (by kernel_rfl) (by kernel_rfl) (by kernel_rfl) (fun _ _ _ h => h) (by rfl) (fun w' hS' => by (try dsimp only at hS'); go_split_ands; go_simp; (try with_reducible rfl)) ?_
  simp only [Act.put, List.getElem_toArray, List.getElem_cons_succ, List.getElem_cons_zero, List.setIfInBounds_toArray, List.set_cons_zero, List.set_cons_succ]
  refine Turns.take hS 5 _ rfl (by kernel_rfl) (by kernel_rfl) (by kernel_rfl) (by kernel_rfl) (fun _ _ _ h => h) (by rfl) (fun w' hS' => by (try dsimp only at hS'); go_split_ands; go_simp; (try with_reducible rfl)) ?_
  simp only [Act.put, List.getElem_toArray, List.getElem_cons_succ, List.getElem_cons_zero, List.setIfInBounds_toArray, List.set_cons_zero, List.set_cons_succ]
  refine Turns.take hS 6 _ rfl (by kernel_rfl) (by kernel_rfl) (by kernel_rfl) (by kernel_rfl) (fun _ _ _ h => h) (by rfl) (fun w' hS' => by (try dsimp only at hS'); go_split_ands; go_simp; (try with_reducible rfl)) ?_
  simp only [Act.put, List.getElem_toArray, List.getElem_cons_succ, List.getElem_cons_zero, List.setIfInBounds_toArray, List.set_cons_zero, List.set_cons_succ]
  refine Turns.take hS 7 _ rfl (by kernel_rfl) (by kernel_rfl) (by kernel_rfl) (by kernel_rfl) (fun _ _ _ h => h) (by rfl) (fun w' hS' => by (try dsimp only at hS'); go_split_ands; go_simp; (try with_reducible rfl)) ?_
  simp only [Act.put, List.getElem_toArray, List.getElem_cons_succ, List.getElem_cons_zero, List.setIfInBounds_toArray, List.set_cons_zero, List.set_cons_succ]
  refine Turns.take hS 8 _ rfl (by kernel_rfl) (by kernel_rfl) (by kernel_rfl) (by kernel_rfl) (fun _ _ _ h => h) (by rfl) (fun w' hS' => by (try dsimp only at hS'); go_split_ands; go_simp; (try with_reducible rfl)) ?_
  simp only [Act.put, List.getElem_toArray, List.getElem_cons_succ, List.getElem_cons_zero, List.setIfInBounds_toArray, List.set_cons_zero, List.set_cons_succ]
  refine Turns.take hS 9 _ rfl (by kernel_rfl) (by kernel_rfl) (by kernel_rfl) (by kernel_rfl) (fun _ _ _ h => h) (by rfl) (fun w' hS' => by (try dsimp only at hS'); go_split_ands; go_simp; (try with_reducible rfl)) ?_
  simp only [Act.put, List.getElem_toArray, List.getElem_cons_succ, List.getElem_cons_zero, List.setIfInBounds_toArray, List.set_cons_zero, List.set_cons_succ]
  refine Turns.rest (late_done (by kernel_rfl)) ?_
  refine any_tail 10 (by rfl) (by kernel_rfl) ?_
  simp only [List.drop_succ_cons, List.drop_zero]
  clear hS
  obtain ⟨W, hW⟩ : ∃ W, w'.drewN (nq + 1) = W := ⟨_, rfl⟩
  have hend := HEnd.out (nq + 1)
  have hcell := HCell.out (nq + 1)
  have kp := HP.out.drewN (nq + 1)
  have cr : W.cell? ⟨b, first, none⟩ = some ((Value.int .i64) x) := by rw [← hW]; exact cx
  have fr : W.frozen? ⟨b, first, none⟩ = false := by rw [← hW]; exact fx
  rw [hW] at hend hcell kp
  change wpList _ _ _ _ _ (w'.drewN (nq + 1))
  rw [hW]
  have kq := kp.far HN.out ((Value.int .i64) 0) (i := first)
  have HE := Lib.hid hend
  clear hend hW HEnd HCell HP cx fx c0 c1 kp
  obtain ⟨I, hI⟩ : ∃ I, (first + 1) % room = I := ⟨_, rfl⟩
  rw [hI] at hm hcell HE
  clear hI
  obtain ⟨W1, hW1⟩ : ∃ W1, W.setCell ⟨b, first, none⟩ ((Value.int .i64) 0) = W1 := ⟨_, rfl⟩
  rw [hW1] at hcell kq HE
  go_upto_region 6 with (fail)
  clear hW1 cr fr
  go_upto_region 7 with (go_at_call 20; refine hcell.mono ?_; rintro e w2 ⟨rfl, m, rfl⟩; obtain ⟨W2, hW2⟩ : ∃ W2, W1.drewN m = W2 := ⟨_, rfl⟩; have k2 := kq.drewN m; have HE2 := Lib.hid (HE.out m); rw [hW2] at k2 HE2 ⊢; clear hW2; have f21 := k2.soft 1; have c21 := k2.cell 1)
  have k3 := k2.put 1 (.int .i64 (I : Int))
  have c32 := k3.cell 2
  have f32 := k3.soft 2
  clear k2 k3 kq HE hcell f21 c21
  go_wp2
  go_ret2
  exact HE2.out

theorem clear_nil (w : World) : Calls Try.prog 9 #[.pointer none] w fun e w' => e = .returned (.tuple #[]) ∧ w' = w := by
  go_enter Try.func9, Try.ntmps9
  go_wp2
  refine bodyPost_ret (results_none rfl _ _ _) rfl ?_
  exact ⟨rfl, rfl⟩
theorem zeros_one (x : Value) (n : Nat) : (Builtin.zeroCells #[x] n).toList = List.replicate n x := by
  apply List.ext_getElem
  · simp [Builtin.zeroCells]
  · intro i h1 h2
    simp [Builtin.zeroCells, Nat.mod_one]
/-- Behind a Clear. -/
def Cleared (B g b room : Nat) (w : World) (e : Ending) (w' : World) : Prop := e = .returned (.tuple #[]) ∧ Rg w' B g b room [] ∧ Chg (part g b) w w'
theorem clear_any (w : World) (B g b room : Nat) (L : List Int) (h : Rg w B g b room L) :
    Calls Try.prog 9 #[.pointer (some ⟨g, 0, none⟩)] w (Cleared B g b room w) := by
  obtain ⟨first, zs, h⟩ := h
  have hz := h.zl
  have hrun := fun ty => run_clearK (P := Try.prog) w 34 3 ty ((Value.int .i64) 0) Try.underlying34 (fun _ => rfl) b 0 room room h.pos (zs.map (Value.int .i64)) 3 h.row
    (by rw [← Array.length_toList, show ((Value.int .i64) 0).cells = #[(Value.int .i64) 0] from rfl, zeros_one]; simp [hz]) (by rw [show ((Value.int .i64) 0).cells = #[(Value.int .i64) 0] from rfl, zeros_one]; intro v hv; rw [(List.mem_replicate.1 hv).2]; rfl)
  have e0 : (splice (zs.map (Value.int .i64)) 0 (Builtin.zeroCells ((Value.int .i64) 0).cells room).toList).toArray = cellsOf (List.replicate room 0) := by
    have hd : List.drop room (zs.map (Value.int .i64)) = [] := List.drop_eq_nil_of_le (by simp [hz])
    rw [show ((Value.int .i64) 0).cells = #[(Value.int .i64) 0] from rfl, zeros_one]
    simp [splice, cellsOf, hd]
  rw [e0] at hrun
  have hb : Chg (part g b) w (w.setRow b (cellsOf (List.replicate room 0))) := Chg.of_grown (grown_row w b _) (fun k e => by cases e; exact .inr rfl)
  have hne := h.ne
  have p1 : Holds (w.setRow b (cellsOf (List.replicate room 0))) g 53 _ := h.ptr.grown (grown_row w b _) (fun e => hne (by simpa using e))
  have r1 := h.row.row (cellsOf (List.replicate room 0))
  have hend : Cleared B g b room w (.returned (.tuple #[])) (((w.setRow b (cellsOf (List.replicate room 0))).setCell ⟨g, 1, none⟩ (.int .i64 0)).setCell ⟨g, 2, none⟩ (.int .i64 0)) := by
    refine ⟨rfl, ⟨0, List.replicate room 0, h.oldg, h.oldb, h.pos, h.le, h.pos, Nat.zero_le _, by simp, ?_, ?_, fun i hi => absurd hi (Nat.not_lt_zero _)⟩,
      (hb.trans (Chg.set (S := part g b) _ g 1 _ (.inl rfl)) (fun _ _ h => h)).trans (Chg.set (S := part g b) _ g 2 _ (.inl rfl)) (fun _ _ h => h)⟩
    · have := (p1.put 1 (.int .i64 0)).put 2 (.int .i64 0)
      simpa using this
    · exact (r1.far (fun e => hne e.symm) _).far (fun e => hne e.symm) _
  have HEnd := Lib.hid hend
  have c0 := h.ptr.cell 0
  have c1 := p1.cell 1
  have f1 := p1.soft 1
  have p2 := p1.put 1 (.int .i64 0)
  have c2 := p2.cell 2
  have f2 := p2.soft 2
  obtain ⟨W, hW⟩ : ∃ W, w.setRow b (cellsOf (List.replicate room 0)) = W := ⟨_, rfl⟩
  rw [hW] at hrun c1 f1 c2 f2 HEnd
  clear p1 p2 r1 hb hend hW e0 h hne
  go_enter Try.func9, Try.ntmps9
  go_wp2
  go_end0
  exact HEnd.out
end Go.Proofs.Ytcbfpejlbbgdjaa.RI

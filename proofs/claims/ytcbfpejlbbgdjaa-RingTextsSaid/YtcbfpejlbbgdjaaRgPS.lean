/- Package ring: Push, Pop, Clear, of one type of things. -/
import Derived.Test.YtcbfpejlbbgdjaaRgS
namespace Go.Proofs.Ytcbfpejlbbgdjaa.RS
open Go.RowKit
set_option linter.unusedVariables false
set_option linter.unusedSimpArgs false

theorem push_full (w : World) (B g b room : Nat) (L : List ByteArray) (x : ByteArray) (h : Rg w B g b room L) (hf : L.length = room) :
    Calls Try.prog 18 #[.pointer (some ⟨g, 0, none⟩), Value.string x] w fun e w' => e = .returned (.int .i64 6) ∧ Below w.heap.size w w' := by
  obtain ⟨first, zs, h⟩ := h
  have c2 := h.ptr.cell 2
  have c0 := h.ptr.cell 0
  rw [hf] at c2
  clear h hf
  go_enter Try.func18, Try.ntmps18
  go_wp2
  go_quiet (fail)
  go_wp2
  go_ret
  exact ⟨rfl, below_drewN (Below.refl _ _) _⟩

/-- Behind a Push that has room. -/
def Pushed (B g b room : Nat) (L : List ByteArray) (x : ByteArray) (w : World) (e : Ending) (w' : World) : Prop := e = .returned (.int .i64 0) ∧ Rg w' B g b room (L ++ [x]) ∧ Chg (part g b) w w'
set_option maxHeartbeats 1000000 in
theorem push_any (w : World) (B g b room : Nat) (L : List ByteArray) (x : ByteArray) (h : Rg w B g b room L) (hlt : L.length < room) :
    Calls Try.prog 18 #[.pointer (some ⟨g, 0, none⟩), Value.string x] w (Pushed B g b room L x w) := by
  obtain ⟨first, zs, h⟩ := h
  have c2 := h.ptr.cell 2
  have c0 := h.ptr.cell 0
  have hle := h.le
  have hcell := fun W (hW : Below w.heap.size w W) => cell_any W g b room first _ (h.below hW).ptr h.pos h.le h.fst L.length (by omega)
  have hm : (first + L.length) % room < room := mod_lt' _ h.pos
  have hend : ∀ W, Below w.heap.size w W → Pushed B g b room L x w (.returned (.int .i64 0)) ((W.setCell ⟨b, (first + L.length) % room, none⟩ (Value.string x)).setCell ⟨g, 2, none⟩ (.int .i64 ((L.length : Int) + 1))) := fun W hW => by
    have hd := h.below hW
    have hb : Chg (part g b) w W := Chg.of_below _ hW
    refine ⟨rfl, ⟨first, zs.set ((first + L.length) % room) x, h.oldg, h.oldb, h.pos, h.le, h.fst, by rw [List.length_append, List.length_singleton]; omega, by simpa using h.zl, ?_, ?_, ring_push h.fst h.zl hlt h.at'⟩,
      (hb.trans (Chg.set (S := part g b) _ b _ _ (.inr rfl)) (fun _ _ h => h)).trans (Chg.set (S := part g b) _ g 2 _ (.inl rfl)) (fun _ _ h => h)⟩
    · have := (hd.ptr.far h.ne (Value.string x) (i := (first + L.length) % room)).put 2 (.int .i64 ((L.length : Int) + 1))
      simpa using this
    · have := (hd.row.put ((first + L.length) % room) (Value.string x)).far (fun e => h.ne e.symm) (.int .i64 ((L.length : Int) + 1)) (i := 2)
      rw [cells_set] at this
      exact this
  have HEnd := Lib.hid hend
  have HC := Lib.hid hcell
  have HR := Lib.hid h.row
  have HPt := Lib.hid h.ptr
  have HN := Lib.hid h.ne
  obtain ⟨n, hn⟩ : ∃ n, L.length = n := ⟨_, rfl⟩
  rw [hn] at c2 HC hm HEnd hlt HPt
  obtain ⟨I, hI⟩ : ∃ I, (first + n) % room = I := ⟨_, rfl⟩
  rw [hI] at HC hm HEnd
  have d1 : decide ((room : Int) ≤ (n : Int)) = false := decide_eq_false (by omega)
  have e1 := IntWalk.i64_in ((n : Int) + 1) (by omega)
  have hz := h.zl
  clear h hend hn hI hcell
  go_enter Try.func18, Try.ntmps18
  go_wp2
  go_quiet (fail)
  go_upto_region 5 with (fail)
  have hb0 : Below w.heap.size w (w.drewN nq).drew := below_drewN (below_drewN (Below.refl _ _) nq) 1
  refine region_turns (fun (w' : World) => w'.cell? ⟨g, 0, none⟩ = some (.slice (some ⟨b, 0, none⟩) room room) ∧ w'.cell? ⟨g, 2, none⟩ = some (.int .i64 (n : Int))) (fun j => decide (12 ≤ j)) (by kernel_rfl) (⟨c0, c2⟩) (fun hS => ?_)
  refine Turns.take hS 0 _ rfl (by kernel_rfl) (by kernel_rfl) (by kernel_rfl) (by kernel_rfl) (fun _ _ _ h => h) (by rfl) (fun w' hS' => by (try dsimp only at hS'); go_split_ands; go_simp; (try with_reducible rfl)) ?_
  simp only [Act.put, List.getElem_toArray, List.getElem_cons_succ, List.getElem_cons_zero, List.setIfInBounds_toArray, List.set_cons_zero, List.set_cons_succ]
  refine Turns.take hS 1 _ rfl (by kernel_rfl) (by kernel_rfl) (by kernel_rfl) (by kernel_rfl) (fun _ _ _ h => h) (by rfl) (fun w' hS' => by (try dsimp only at hS'); go_split_ands; go_simp; (try with_reducible rfl)) ?_
  simp only [Act.put, List.getElem_toArray, List.getElem_cons_succ, List.getElem_cons_zero, List.setIfInBounds_toArray, List.set_cons_zero, List.set_cons_succ]
  refine Turns.take hS 2 _ rfl (by kernel_rfl) (by kernel_rfl) (by kernel_rfl) (by kernel_rfl) (fun _ _ _ h => h) (by rfl) (fun w' hS' => by (try dsimp only at hS'); go_split_ands; go_simp; (try with_reducible rfl)) ?_
  simp only [Act.put, List.getElem_toArray, List.getElem_cons_succ, List.getElem_cons_zero, List.setIfInBounds_toArray, List.set_cons_zero, List.set_cons_succ]
  refine Turns.take hS 3 _ rfl (by kernel_rfl) (by kernel_rfl) (by kernel_rfl) (by kernel_rfl) (fun _ _ _ h => h) (by rfl) (fun w' hS' => by (try dsimp only at hS'); go_split_ands; go_simp; (try with_reducible rfl)) ?_
  simp only [Act.put, List.getElem_toArray, List.getElem_cons_succ, List.getElem_cons_zero, List.setIfInBounds_toArray, List.set_cons_zero, List.set_cons_succ]
  refine Turns.take hS 4 _ rfl (by kernel_rfl) (by kernel_rfl) (by kernel_rfl) (by kernel_rfl) (fun _ _ _ h => h) (by rfl) (fun w' hS' => by (try dsimp only at hS'); go_split_ands; go_simp; (try with_reducible rfl)) ?_
  simp only [Act.put, List.getElem_toArray, List.getElem_cons_succ, List.getElem_cons_zero, List.setIfInBounds_toArray, List.set_cons_zero, List.set_cons_succ]
  refine Turns.take hS 5 _ rfl (by kernel_rfl) (by kernel_rfl) (by kernel_rfl) (by kernel_rfl) (fun _ _ _ h => h) (by rfl) (fun w' hS' => by (try dsimp only at hS'); go_split_ands; go_simp; (try with_reducible rfl)) ?_
  simp only [Act.put, List.getElem_toArray, List.getElem_cons_succ, List.getElem_cons_zero, List.setIfInBounds_toArray, List.set_cons_zero, List.set_cons_succ]
  refine Turns.take hS 6 _ rfl (by kernel_rfl) (by kernel_rfl) (by kernel_rfl) (by kernel_rfl) (fun _ _ _ h => h) (by rfl) (fun w' hS' => by (try dsimp only at hS'); go_split_ands; go_simp; (try with_reducible rfl)) ?_
  simp only [Act.put, List.getElem_toArray, List.getElem_cons_succ, List.getElem_cons_zero, List.setIfInBounds_toArray, List.set_cons_zero, List.set_cons_succ]
  refine Turns.take hS 7 _ rfl (by kernel_rfl) (by kernel_rfl) (by kernel_rfl) (by kernel_rfl) (fun _ _ _ h => h) (by rfl) (fun w' hS' => by (try dsimp only at hS'); go_split_ands; go_simp; (try with_reducible rfl)) ?_
  simp only [Act.put, List.getElem_toArray, List.getElem_cons_succ, List.getElem_cons_zero, List.setIfInBounds_toArray, List.set_cons_zero, List.set_cons_succ]
  refine Turns.take hS 8 _ rfl (by kernel_rfl) (by kernel_rfl) (by kernel_rfl) (by kernel_rfl) (fun _ _ _ h => h) (by rfl) (fun w' hS' => by (try dsimp only at hS'); go_split_ands; go_simp; (try with_reducible rfl)) ?_
  simp only [Act.put, List.getElem_toArray, List.getElem_cons_succ, List.getElem_cons_zero, List.setIfInBounds_toArray, List.set_cons_zero, List.set_cons_succ]
  refine Turns.take hS 10 _ rfl (by kernel_rfl) (by kernel_rfl) (by kernel_rfl) (by kernel_rfl) (fun _ _ _ h => h) (by rfl) (fun w' hS' => by (try dsimp only at hS'); go_split_ands; go_simp; (try with_reducible rfl)) ?_
  simp only [Act.put, List.getElem_toArray, List.getElem_cons_succ, List.getElem_cons_zero, List.setIfInBounds_toArray, List.set_cons_zero, List.set_cons_succ]
  refine Turns.next 9 rfl (by kernel_rfl) (by rfl) (fun K hK => ?_)
  go_simp
  refine (HC.out _ hb0).mono ?_
  rintro e w1 ⟨rfl, m1, rfl⟩
  refine hK.out _ _ (show (fun (w' : World) => w'.cell? ⟨g, 0, none⟩ = some (.slice (some ⟨b, 0, none⟩) room room) ∧ w'.cell? ⟨g, 2, none⟩ = some (.int .i64 (n : Int))) _ from ⟨c0, c2⟩) ?_
  clear hK K hS
  have hS := (show (fun (w' : World) => w'.cell? ⟨g, 0, none⟩ = some (.slice (some ⟨b, 0, none⟩) room room) ∧ w'.cell? ⟨g, 2, none⟩ = some (.int .i64 (n : Int))) _ from ⟨c0, c2⟩)
  refine Turns.take hS 11 _ rfl (by kernel_rfl) (by kernel_rfl) (by kernel_rfl) (by kernel_rfl) (fun _ _ _ h => h) (by rfl) (fun w' hS' => by (try dsimp only at hS'); go_split_ands; go_simp; (try with_reducible rfl)) ?_
  simp only [Act.put, List.getElem_toArray, List.getElem_cons_succ, List.getElem_cons_zero, List.setIfInBounds_toArray, List.set_cons_zero, List.set_cons_succ]
  refine Turns.rest (late_done (by kernel_rfl)) ?_
  refine any_tail 12 (by rfl) (by kernel_rfl) ?_
  simp only [List.drop_succ_cons, List.drop_zero]
  clear hS
  have hb1 := below_drewN hb0 m1
  obtain ⟨W, hW⟩ : ∃ W, ((w.drewN nq).drew.drewN m1) = W := ⟨_, rfl⟩
  rw [hW] at hb1 ⊢
  have p1 := HPt.out.below hb1 HPt.out.lt
  have r1 := HR.out.below hb1 HR.out.lt
  have fr := r1.soft I
  have fp := (p1.far HN.out (Value.string x) (i := I)).soft 2
  have cp := (p1.far HN.out (Value.string x) (i := I)).cell 2
  have cr := r1.cell I
  obtain ⟨z, hzI⟩ : ∃ z, zs[I]? = some z := ⟨_, List.getElem?_eq_getElem (by omega)⟩
  rw [cells_at hzI] at cr
  have HB := Lib.hid hb1
  clear p1 r1 hb1 hW hb0 c0 c2 hzI
  go_wp2
  go_ret
  exact HEnd.out _ HB.out

theorem pop_none (w : World) (B g b room : Nat) (h : Rg w B g b room []) :
    Calls Try.prog 19 #[.pointer (some ⟨g, 0, none⟩)] w fun e w' => e = .returned (.tuple #[Value.string ⟨#[]⟩, .bool false]) ∧ w' = w := by
  have hl := len_any w B g b room [] h
  clear h
  go_enter Try.func19, Try.ntmps19
  go_wp2_with (go_at_call 23; refine hl.mono ?_; rintro e w' ⟨rfl, rfl⟩)
  go_ret2
  exact ⟨rfl, rfl⟩
/-- Behind a Pop of one. -/
def Popped (B g b room : Nat) (x : ByteArray) (L : List ByteArray) (w : World) (e : Ending) (w' : World) : Prop := e = .returned (.tuple #[Value.string x, .bool true]) ∧ Rg w' B g b room L ∧ Chg (part g b) w w'
theorem pop_end {W : World} {B g b room first : Nat} {zs L : List ByteArray} {x : ByteArray} (h : R0 W B g b room first zs (x :: L)) {W1 : World} (h1 : R0 W1 B g b room first zs (x :: L)) (hb : Chg (part g b) W W1) (m : Nat) :
    Popped B g b room x L W (.returned (.tuple #[Value.string x, .bool true])) (((((W1.setCell ⟨b, first, none⟩ (Value.string ⟨#[]⟩)).drewN m).setCell ⟨g, 1, none⟩ (.int .i64 ((first + 1) % room : Nat))).setCell ⟨g, 2, none⟩ (.int .i64 (L.length : Int)))) := by
  have hm : (first + 1) % room < room := mod_lt' _ h.pos
  have hlen := h.len
  rw [List.length_cons] at hlen
  have hc1 : Chg (part g b) W ((W1.setCell ⟨b, first, none⟩ (Value.string ⟨#[]⟩)).drewN m) := (hb.trans (Chg.set (S := part g b) _ b _ _ (.inr rfl)) (fun _ _ h => h)).drewN m
  refine ⟨rfl, ⟨(first + 1) % room, zs.set first ⟨#[]⟩, h.oldg, h.oldb, h.pos, h.le, hm, by omega, by simpa using h.zl, ?_, ?_, (ring_pop h.fst h.len h.at').2⟩,
    (hc1.trans (Chg.set (S := part g b) _ g 1 _ (.inl rfl)) (fun _ _ h => h)).trans (Chg.set (S := part g b) _ g 2 _ (.inl rfl)) (fun _ _ h => h)⟩
  · have := (((h1.ptr.far h.ne (Value.string ⟨#[]⟩) (i := first)).drewN m).put 1 (.int .i64 ((first + 1) % room : Nat))).put 2 (.int .i64 (L.length : Int))
    simpa using this
  · have := (((h1.row.put first (Value.string ⟨#[]⟩)).drewN m).far (fun e => h.ne e.symm) (.int .i64 ((first + 1) % room : Nat)) (i := 1)).far (fun e => h.ne e.symm) (.int .i64 (L.length : Int)) (i := 2)
    rw [cells_set] at this
    exact this
set_option maxHeartbeats 1000000 in
theorem pop_any (w : World) (B g b room : Nat) (x : ByteArray) (L : List ByteArray) (h : Rg w B g b room (x :: L)) :
    Calls Try.prog 19 #[.pointer (some ⟨g, 0, none⟩)] w (Popped B g b room x L w) := by
  have hlen := len_any w B g b room (x :: L) h
  obtain ⟨first, zs, h⟩ := h
  have hle := h.le
  have hm : (first + 1) % room < room := mod_lt' _ h.pos
  have hx := (ring_pop (z := ⟨#[]⟩) h.fst h.len h.at').1
  have hend := fun (m1 m : Nat) => pop_end h (h.drewN m1) (Chg.of_below _ (below_drewN (Below.refl _ _) m1)) m
  have hcell := fun (m1 : Nat) => cell_any ((w.drewN m1).setCell ⟨b, first, none⟩ (Value.string ⟨#[]⟩)) g b room first _ ((h.drewN m1).ptr.far h.ne _) h.pos h.le h.fst 1 (by omega)
  have HEnd := Lib.hid hend
  have HCell := Lib.hid hcell
  have c0 := h.ptr.cell 0
  have c1 := h.ptr.cell 1
  have cx := h.row.cell first
  rw [cells_at hx] at cx
  have fx := h.row.soft first
  have hfr := h.fst
  have HP := Lib.hid h.ptr
  have HN := Lib.hid h.ne
  have hne : ((L.length : Int) + 1 == 0) = false := by simp; omega
  rw [List.length_cons] at hlen HP
  obtain ⟨n, hn⟩ : ∃ n, L.length = n := ⟨_, rfl⟩
  have hnr : n < room := by have := h.len; rw [List.length_cons] at this; omega
  rw [hn] at hlen hne HEnd HP
  have e1 : IntKind.i64.wrap (((n + 1 : Nat) : Int) - 1) = (n : Int) := by
    rw [IntWalk.i64_in _ (by omega)]
    omega
  clear h hend hn hcell hx
  go_enter Try.func19, Try.ntmps19
  go_wp2_with (go_at_call 23; refine hlen.mono ?_; rintro e w' ⟨rfl, rfl⟩)
  go_quiet (fail)
  go_upto_region 5 with (fail)
  refine region_turns (fun (w' : World) => w'.cell? ⟨g, 0, none⟩ = some (.slice (some ⟨b, 0, none⟩) room room) ∧ w'.cell? ⟨g, 1, none⟩ = some (.int .i64 (first : Int))) (fun j => decide (10 ≤ j)) (by kernel_rfl) (⟨c0, c1⟩) (fun hS => ?_)
  refine Turns.take hS 0 _ rfl (by kernel_rfl) (by kernel_rfl) (by kernel_rfl) (by kernel_rfl) (fun _ _ _ h => h) (by rfl) (fun w' hS' => by (try dsimp only at hS'); go_split_ands; go_simp; (try with_reducible rfl)) ?_
  simp only [Act.put, List.getElem_toArray, List.getElem_cons_succ, List.getElem_cons_zero, List.setIfInBounds_toArray, List.set_cons_zero, List.set_cons_succ]
  refine Turns.take hS 1 _ rfl (by kernel_rfl) (by kernel_rfl) (by kernel_rfl) (by kernel_rfl) (fun _ _ _ h => h) (by rfl) (fun w' hS' => by (try dsimp only at hS'); go_split_ands; go_simp; (try with_reducible rfl)) ?_
  simp only [Act.put, List.getElem_toArray, List.getElem_cons_succ, List.getElem_cons_zero, List.setIfInBounds_toArray, List.set_cons_zero, List.set_cons_succ]
  refine Turns.take hS 2 _ rfl (by kernel_rfl) (by kernel_rfl) (by kernel_rfl) (by kernel_rfl) (fun _ _ _ h => h) (by rfl) (fun w' hS' => by (try dsimp only at hS'); go_split_ands; go_simp; (try with_reducible rfl)) ?_
  simp only [Act.put, List.getElem_toArray, List.getElem_cons_succ, List.getElem_cons_zero, List.setIfInBounds_toArray, List.set_cons_zero, List.set_cons_succ]
  refine Turns.take hS 3 _ rfl (by kernel_rfl) (by kernel_rfl) (by kernel_rfl) (by kernel_rfl) (fun _ _ _ h => h) (by rfl) (fun w' hS' => by (try dsimp only at hS'); go_split_ands; go_simp; (try with_reducible rfl)) ?_
  simp only [Act.put, List.getElem_toArray, List.getElem_cons_succ, List.getElem_cons_zero, List.setIfInBounds_toArray, List.set_cons_zero, List.set_cons_succ]
  refine Turns.take hS 4 _ rfl (by kernel_rfl) (by kernel_rfl) (by kernel_rfl) (by kernel_rfl) (fun _ _ _ h => h) (by rfl) (fun w' hS' => by (try dsimp only at hS'); go_split_ands; go_simp; (try with_reducible rfl)) ?_
  simp only [Act.put, List.getElem_toArray, List.getElem_cons_succ, List.getElem_cons_zero, List.setIfInBounds_toArray, List.set_cons_zero, List.set_cons_succ]
  refine Turns.take hS 5 _ rfl (by kernel_rfl) (by kernel_rfl) (by kernel_rfl) (by kernel_rfl) (fun _ _ _ h => h) (by rfl) (fun w' hS' => by (try dsimp only at hS'); go_split_ands; go_simp; (try with_reducible rfl)) ?_
  simp only [Act.put, List.getElem_toArray, List.getElem_cons_succ, List.getElem_cons_zero, List.setIfInBounds_toArray, List.set_cons_zero, List.set_cons_succ]
  refine Turns.take hS 6 _ rfl (by kernel_rfl) (by kernel_rfl) (by kernel_rfl) (by kernel_rfl) (fun _ _ _ h => h) (by rfl) (fun w' hS' => by (try dsimp only at hS'); go_split_ands; go_simp; (try with_reducible rfl)) ?_
  simp only [Act.put, List.getElem_toArray, List.getElem_cons_succ, List.getElem_cons_zero, List.setIfInBounds_toArray, List.set_cons_zero, List.set_cons_succ]
  refine Turns.take hS 7 _ rfl (by kernel_rfl) (by kernel_rfl) (by kernel_rfl) (by kernel_rfl) (fun _ _ _ h => h) (by rfl) (fun w' hS' => by (try dsimp only at hS'); go_split_ands; go_simp; (try with_reducible rfl)) ?_
  simp only [Act.put, List.getElem_toArray, List.getElem_cons_succ, List.getElem_cons_zero, List.setIfInBounds_toArray, List.set_cons_zero, List.set_cons_succ]
  refine Turns.take hS 8 _ rfl (by kernel_rfl) (by kernel_rfl) (by kernel_rfl) (by kernel_rfl) (fun _ _ _ h => h) (by rfl) (fun w' hS' => by (try dsimp only at hS'); go_split_ands; go_simp; (try with_reducible rfl)) ?_
  simp only [Act.put, List.getElem_toArray, List.getElem_cons_succ, List.getElem_cons_zero, List.setIfInBounds_toArray, List.set_cons_zero, List.set_cons_succ]
  refine Turns.take hS 9 _ rfl (by kernel_rfl) (by kernel_rfl) (by kernel_rfl) (by kernel_rfl) (fun _ _ _ h => h) (by rfl) (fun w' hS' => by (try dsimp only at hS'); go_split_ands; go_simp; (try with_reducible rfl)) ?_
  simp only [Act.put, List.getElem_toArray, List.getElem_cons_succ, List.getElem_cons_zero, List.setIfInBounds_toArray, List.set_cons_zero, List.set_cons_succ]
  refine Turns.rest (late_done (by kernel_rfl)) ?_
  refine any_tail 10 (by rfl) (by kernel_rfl) ?_
  simp only [List.drop_succ_cons, List.drop_zero]
  clear hS
  obtain ⟨W, hW⟩ : ∃ W, w'.drewN (nq + 1) = W := ⟨_, rfl⟩
  have hend := HEnd.out (nq + 1)
  have hcell := HCell.out (nq + 1)
  have kp := HP.out.drewN (nq + 1)
  have cr : W.cell? ⟨b, first, none⟩ = some (Value.string x) := by rw [← hW]; exact cx
  have fr : W.frozen? ⟨b, first, none⟩ = false := by rw [← hW]; exact fx
  rw [hW] at hend hcell kp
  change wpList _ _ _ _ _ (w'.drewN (nq + 1))
  rw [hW]
  have kq := kp.far HN.out (Value.string ⟨#[]⟩) (i := first)
  have HE := Lib.hid hend
  clear hend hW HEnd HCell HP cx fx c0 c1 kp
  obtain ⟨I, hI⟩ : ∃ I, (first + 1) % room = I := ⟨_, rfl⟩
  rw [hI] at hm hcell HE
  clear hI
  obtain ⟨W1, hW1⟩ : ∃ W1, W.setCell ⟨b, first, none⟩ (Value.string ⟨#[]⟩) = W1 := ⟨_, rfl⟩
  rw [hW1] at hcell kq HE
  go_upto_region 6 with (fail)
  clear hW1 cr fr
  go_upto_region 7 with (go_at_call 22; refine hcell.mono ?_; rintro e w2 ⟨rfl, m, rfl⟩; obtain ⟨W2, hW2⟩ : ∃ W2, W1.drewN m = W2 := ⟨_, rfl⟩; have k2 := kq.drewN m; have HE2 := Lib.hid (HE.out m); rw [hW2] at k2 HE2 ⊢; clear hW2; have f21 := k2.soft 1; have c21 := k2.cell 1)
  have k3 := k2.put 1 (.int .i64 (I : Int))
  have c32 := k3.cell 2
  have f32 := k3.soft 2
  clear k2 k3 kq HE hcell f21 c21
  go_wp2
  go_ret2
  exact HE2.out

end Go.Proofs.Ytcbfpejlbbgdjaa.RS

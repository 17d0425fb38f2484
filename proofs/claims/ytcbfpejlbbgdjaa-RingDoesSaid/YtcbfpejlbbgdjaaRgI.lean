/- Package ring: a row's calls, of one type of things. -/
import Derived.Test.YtcbfpejlbbgdjaaRgM
import Derived.Test.YtcbfpejlbbgdjaaProg
import Derived.Outline
import Derived.LoopTactic
import Derived.Deep.RegionLaw
namespace Go.Proofs.Ytcbfpejlbbgdjaa.RI
open Go.RowKit
set_option linter.unusedVariables false
set_option linter.unusedSimpArgs false

/-- Things as cells. -/
def cellsOf (zs : List Int) : Array Value := (zs.map (Value.int .i64)).toArray
theorem cells_at {zs : List Int} {i : Nat} {x : Int} (h : zs[i]? = some x) : (cellsOf zs)[i]? = some ((Value.int .i64) x) := by simp [cellsOf, h]
theorem cells_set (zs : List Int) (i : Nat) (x : Int) : (cellsOf zs).setIfInBounds i ((Value.int .i64) x) = cellsOf (zs.set i x) := by
  unfold cellsOf
  rw [List.map_set]
  simp

/-- A row at block g, its cells in block b; the first thing lies in cell first. -/
structure R0 (w : World) (B g b room first : Nat) (zs L : List Int) : Prop where
  oldg : B ≤ g
  oldb : B ≤ b
  pos : 1 ≤ room
  le : room ≤ 64
  fst : first < room
  len : L.length ≤ room
  zl : zs.length = room
  ptr : Holds w g 53 #[.slice (some ⟨b, 0, none⟩) room room, .int .i64 (first : Int), .int .i64 (L.length : Int)]
  row : Holds w b 3 (cellsOf zs)
  at' : ∀ i, i < L.length → zs[(first + i) % room]? = L[i]?
/-- A row with so much room, in which there are these. -/
def Rg (w : World) (B g b room : Nat) (L : List Int) : Prop := ∃ first zs, R0 w B g b room first zs L

section
variable {w w' : World} {B g b room first : Nat} {zs L : List Int}
theorem R0.ne (h : R0 w B g b room first zs L) : g ≠ b := h.ptr.apart h.row (by decide)
theorem R0.chg {S : Nat → Prop} (h : R0 w B g b room first zs L) (hc : Chg S w w') (h1 : ¬ S g) (h2 : ¬ S b) : R0 w' B g b room first zs L := { h with ptr := h.ptr.chg hc h1, row := h.row.chg hc h2 }
theorem R0.below (h : R0 w B g b room first zs L) (hb : Below w.heap.size w w') : R0 w' B g b room first zs L := h.chg (Chg.of_below (fun _ => False) hb) id id
theorem R0.drewN (h : R0 w B g b room first zs L) (n : Nat) : R0 (w.drewN n) B g b room first zs L := h.below (below_drewN (Below.refl _ _) n)
theorem Rg.chg {S : Nat → Prop} (h : Rg w B g b room L) (hc : Chg S w w') (h1 : ¬ S g) (h2 : ¬ S b) : Rg w' B g b room L := by
  obtain ⟨f, zs, h⟩ := h
  exact ⟨f, zs, h.chg hc h1 h2⟩
theorem Rg.below (h : Rg w B g b room L) (hb : Below w.heap.size w w') : Rg w' B g b room L := h.chg (Chg.of_below (fun _ => False) hb) id id
theorem Rg.len (h : Rg w B g b room L) : L.length ≤ room := by
  obtain ⟨_, _, h⟩ := h
  exact h.len
theorem Rg.fits (h : Rg w B g b room L) : 1 ≤ room ∧ room ≤ 64 := by
  obtain ⟨_, _, h⟩ := h
  exact ⟨h.pos, h.le⟩
theorem Rg.old (h : Rg w B g b room L) : B ≤ g ∧ B ≤ b ∧ g < w.heap.size ∧ b < w.heap.size := by
  obtain ⟨_, _, h⟩ := h
  exact ⟨h.oldg, h.oldb, h.ptr.lt, h.row.lt⟩
theorem Rg.mono (h : Rg w B g b room L) {B' : Nat} (hB : B' ≤ B) : Rg w B' g b room L := by
  obtain ⟨f, zs, h⟩ := h
  exact ⟨f, zs, { h with oldg := Nat.le_trans hB h.oldg, oldb := Nat.le_trans hB h.oldb }⟩
end
/-- The blocks of a row. -/
def part (g b : Nat) : Nat → Prop := fun k => k = g ∨ k = b

theorem len_any (w : World) (B g b room : Nat) (L : List Int) (h : Rg w B g b room L) :
    Calls Try.prog 12 #[.pointer (some ⟨g, 0, none⟩)] w fun e w' => e = .returned (.int .i64 L.length) ∧ w' = w := by
  obtain ⟨first, zs, h⟩ := h
  have c2 := h.ptr.cell 2
  clear h
  go_enter Try.func12, Try.ntmps12
  go_wp2
  go_ret
  exact ⟨rfl, rfl⟩
theorem len_nil (w : World) : Calls Try.prog 12 #[.pointer none] w fun e w' => e = .returned (.int .i64 0) ∧ w' = w := by
  go_enter Try.func12, Try.ntmps12
  go_wp2
  go_ret
  exact ⟨rfl, rfl⟩

theorem cell_any (w : World) (g b room first : Nat) (v : Value) (h : Holds w g 53 #[.slice (some ⟨b, 0, none⟩) room room, .int .i64 (first : Int), v]) (hpos : 1 ≤ room) (hl : room ≤ 64) (hf : first < room) (k : Nat) (hk : k ≤ 64) :
    Calls Try.prog 20 #[.pointer (some ⟨g, 0, none⟩), .int .i64 k] w fun e w' => e = .returned (.int .i64 ((first + k) % room : Nat)) ∧ ∃ m, w' = w.drewN m := by
  have c0 := h.cell 0
  have c1 := h.cell 1
  have hr0 : ¬ ((room : Int) = 0) := by omega
  have e1 := IntWalk.i64_in ((first : Int) + k) (by omega)
  have e2 : ((first : Int) + (k : Int)).tmod (room : Int) = (((first + k) % room : Nat) : Int) := by
    rw [Int.tmod_eq_emod_of_nonneg (by omega)]
    simp
  have hm : (first + k) % room < room := Nat.mod_lt _ hpos
  obtain ⟨X, hX⟩ : ∃ X, (first + k) % room = X := ⟨_, rfl⟩
  rw [hX] at e2 hm ⊢
  have e3 := IntWalk.i64_in (X : Int) (by omega)
  clear h hX
  go_enter Try.func20, Try.ntmps20
  go_wp2
  go_quiet (fail)
  go_wp2
  go_ret
  exact ⟨rfl, _, rfl⟩

theorem push_nil (w : World) (x : Int) : Calls Try.prog 11 #[.pointer none, (Value.int .i64) x] w fun e w' => e = .returned (.int .i64 2) ∧ w' = w := by
  go_enter Try.func11, Try.ntmps11
  go_wp2
  go_ret
  exact ⟨rfl, rfl⟩
theorem pop_nil (w : World) : Calls Try.prog 10 #[.pointer none] w fun e w' => e = .returned (.tuple #[(Value.int .i64) 0, .bool false]) ∧ w' = w := by
  go_enter Try.func10, Try.ntmps10
  go_wp2_with (go_at_call 12; refine (len_nil _).mono ?_; rintro e w' ⟨rfl, rfl⟩)
  go_ret2
  exact ⟨rfl, rfl⟩
theorem new_bad (w : World) (n : Int) (h : n < 1 ∨ 64 < n) : Calls Try.prog 8 #[.int .i64 n] w fun e w' => e = .returned (.tuple #[.pointer none, .int .i64 1]) ∧ w' = w := by
  by_cases h1 : n < 1
  · go_enter Try.func8, Try.ntmps8
    go_wp2
    go_ret2
    exact ⟨rfl, rfl⟩
  · have h2 : 64 < n := by omega
    have d1 : decide (n < 1) = false := decide_eq_false h1
    have d2 : decide (64 < n) = true := decide_eq_true h2
    go_enter Try.func8, Try.ntmps8
    go_wp2
    go_ret2
    exact ⟨rfl, rfl⟩
theorem t_info : (Try.prog.info? 3).map (fun i => (i.zero, i.size, i.bytes)) = some (some ((Value.int .i64) 0), 1, 8) := by kernel_rfl
theorem made_is (z : Value) (n : Nat) : madeCells #[z] n = (List.replicate n z).toArray := by
  rw [← toList_madeCells_one]
theorem make_cells (n : Nat) (hn : n ≤ 64) (w : World) : (Instr.makeSlice 34 (.int .i64 (n : Int)) (.int .i64 (n : Int))).run Try.prog w = .ok (.slice (some ⟨w.heap.size, 0, none⟩) n n) (w.alloc (.cells (cellsOf (List.replicate n 0)) 3)) := by
  have := run_make_row' 34 3 ((Value.int .i64) 0) 8 Try.underlying34 t_info rfl .i64 .i64 n (by omega) (by omega) w
  rw [this, made_is]
  simp [cellsOf]
theorem new_any (w : World) (n : Nat) (h1 : 1 ≤ n) (h2 : n ≤ 64) : Calls Try.prog 8 #[.int .i64 n] w fun e w' => e = .returned (.tuple #[.pointer (some ⟨w.heap.size + 1, 0, none⟩), .int .i64 0]) ∧ Rg w' w.heap.size (w.heap.size + 1) w.heap.size n [] ∧ Below w.heap.size w w' ∧ w'.heap.size = w.heap.size + 2 := by
  have hmk := make_cells n h2
  have d1 : decide ((n : Int) < 1) = false := decide_eq_false (by omega)
  have d2 : decide (64 < (n : Int)) = false := decide_eq_false (by omega)
  go_enter Try.func8, Try.ntmps8
  go_wp2
  go_ret2
  refine ⟨by simp, ⟨0, List.replicate n 0, by omega, Nat.le_refl _, h1, h2, h1, Nat.zero_le _, by simp, ?_, ?_, fun i hi => absurd hi (Nat.not_lt_zero _)⟩, (below_alloc _ _).alloc (by simp) _, by simp⟩
  · have := Holds.new (w.alloc (.cells (cellsOf (List.replicate n 0)) 3)) 53 #[.slice (some ⟨w.heap.size, 0, none⟩) n n, .int .i64 0, .int .i64 0]
    simpa using this
  · exact (Holds.new w 3 (cellsOf (List.replicate n 0))).alloc _
end Go.Proofs.Ytcbfpejlbbgdjaa.RI

/- Package ring, of events: a row's calls. -/
import Derived.Test.YtjifnnloncanpaaEvM
import Derived.Test.YtjifnnloncanpaaElem
import Derived.Test.YtjifnnloncanpaaWp
import Derived.Test.YtjifnnloncanpaaBox
import Derived.Test.YtjifnnloncanpaaProg
import Derived.Outline
import Derived.LoopTactic
import Derived.Deep.RegionLaw
namespace Go.Proofs.Ytjifnnloncanpaa
open Go.RowKit
set_option linter.unusedVariables false
set_option linter.unusedSimpArgs false

theorem ev_size : (Try.prog.info? 41).map (·.size) = some 8 := by kernel_rfl
theorem ev_size' (e : Ev) : (Try.prog.info? 41).map (·.size) = some (ev8 e).length := ev_size
/-- A struct's cells, loaded from a place within a block, as one step of a region that draws its order. -/
theorem wp_load_in {P : Program} {o : Oper} {a : Act} {w : World} {K : Act → World → Prop} {Q : Exit → Act → World → Prop} (ty : TypeId) (x : Operand) (ho : o.op = .load ty x)
    (g off : Nat) (hx : a.eval x = .pointer (some ⟨g, off, none⟩)) (t : TypeId) (cur : Array Value) (cs : List Value) (d : TypeDesc) (hg : Holds w g t cur) (hcs : ∀ j v, cs[j]? = some v → cur[off + j]? = some v)
    (hu : P.underlying ty = some d) (hd : (match d with | .struct _ | .array _ _ => true | _ => false) = true) (hi : (P.info? ty).map (·.size) = some cs.length)
    (h : K (a.put o.dst (.agg cs.toArray)) w) : Oper.wp P o a w K Q := by
  unfold Oper.wp execOp
  simp only [ho, hx, Instr.loadAt, Instr.sureAddr, Sem.run_bind, Sem.run_pure, Result.andThen_ok, run_loadVar_at w g off t ty cur cs d hg hcs hu hd hi]
  exact h
theorem evs_at {zs : List Ev} {i : Nat} {x : Ev} (h : zs[i]? = some x) : ∀ j v, (ev8 x)[j]? = some v → (evs zs).toArray[i * 8 + j]? = some v := fun j v hv => by
  rw [List.getElem?_toArray]
  exact evs_get zs i x h j v hv
theorem ev8_at (x : Ev) : ∀ j v, (ev8 x)[j]? = some v → (ev8 x).toArray[0 + j]? = some v := fun j v hv => by
  rw [Nat.zero_add, List.getElem?_toArray]
  exact hv
namespace RE

/-- A row at block g, its cells in block b; the first thing lies in cell first. -/
structure R0 (w : World) (B g b room first : Nat) (zs L : List Ev) : Prop where
  oldg : B ≤ g
  oldb : B ≤ b
  pos : 1 ≤ room
  le : room ≤ 64
  fst : first < room
  len : L.length ≤ room
  zl : zs.length = room
  ptr : Holds w g 67 #[.slice (some ⟨b, 0, none⟩) room room, .int .i64 (first : Int), .int .i64 (L.length : Int)]
  row : Holds w b 41 (evs zs).toArray
  at' : ∀ i, i < L.length → zs[(first + i) % room]? = L[i]?
/-- A row with so much room, in which there are these. -/
def Rg (w : World) (B g b room : Nat) (L : List Ev) : Prop := ∃ first zs, R0 w B g b room first zs L

section
variable {w w' : World} {B g b room first : Nat} {zs L : List Ev}
theorem R0.ne (h : R0 w B g b room first zs L) : g ≠ b := h.ptr.apart h.row (by decide)
theorem R0.chg {S : Nat → Prop} (h : R0 w B g b room first zs L) (hc : Chg S w w') (h1 : ¬ S g) (h2 : ¬ S b) : R0 w' B g b room first zs L := { h with ptr := h.ptr.chg hc h1, row := h.row.chg hc h2 }
theorem R0.below (h : R0 w B g b room first zs L) (hb : Below w.heap.size w w') : R0 w' B g b room first zs L := h.chg (Chg.of_below (fun _ => False) hb) id id
theorem R0.drewN (h : R0 w B g b room first zs L) (n : Nat) : R0 (w.drewN n) B g b room first zs L := h.below (below_drewN (Below.refl _ _) n)
theorem Rg.chg {S : Nat → Prop} (h : Rg w B g b room L) (hc : Chg S w w') (h1 : ¬ S g) (h2 : ¬ S b) : Rg w' B g b room L := by
  obtain ⟨f, zs, h⟩ := h
  exact ⟨f, zs, h.chg hc h1 h2⟩
theorem Rg.below (h : Rg w B g b room L) (hb : Below w.heap.size w w') : Rg w' B g b room L := h.chg (Chg.of_below (fun _ => False) hb) id id
theorem Rg.len (h : Rg w B g b room L) : L.length ≤ room := by
  obtain ⟨_, _, h⟩ := h
  exact h.len
theorem Rg.fits (h : Rg w B g b room L) : 1 ≤ room ∧ room ≤ 64 := by
  obtain ⟨_, _, h⟩ := h
  exact ⟨h.pos, h.le⟩
theorem Rg.old (h : Rg w B g b room L) : B ≤ g ∧ B ≤ b ∧ g < w.heap.size ∧ b < w.heap.size := by
  obtain ⟨_, _, h⟩ := h
  exact ⟨h.oldg, h.oldb, h.ptr.lt, h.row.lt⟩
theorem Rg.mono (h : Rg w B g b room L) {B' : Nat} (hB : B' ≤ B) : Rg w B' g b room L := by
  obtain ⟨f, zs, h⟩ := h
  exact ⟨f, zs, { h with oldg := Nat.le_trans hB h.oldg, oldb := Nat.le_trans hB h.oldb }⟩
end
/-- The blocks of a row. -/
def part (g b : Nat) : Nat → Prop := fun k => k = g ∨ k = b

theorem len_any (w : World) (B g b room : Nat) (L : List Ev) (h : Rg w B g b room L) :
    Calls Try.prog 22 #[.pointer (some ⟨g, 0, none⟩)] w fun e w' => e = .returned (.int .i64 L.length) ∧ w' = w := by
  obtain ⟨first, zs, h⟩ := h
  have c2 := h.ptr.cell 2
  clear h
  go_enter Try.func22, Try.ntmps22
  go_wp2
  go_ret
  exact ⟨rfl, rfl⟩
theorem len_nil (w : World) : Calls Try.prog 22 #[.pointer none] w fun e w' => e = .returned (.int .i64 0) ∧ w' = w := by
  go_enter Try.func22, Try.ntmps22
  go_wp2
  go_ret
  exact ⟨rfl, rfl⟩

theorem cell_any (w : World) (g b room first : Nat) (v : Value) (h : Holds w g 67 #[.slice (some ⟨b, 0, none⟩) room room, .int .i64 (first : Int), v]) (hpos : 1 ≤ room) (hl : room ≤ 64) (hf : first < room) (k : Nat) (hk : k ≤ 64) :
    Calls Try.prog 25 #[.pointer (some ⟨g, 0, none⟩), .int .i64 k] w fun e w' => e = .returned (.int .i64 ((first + k) % room : Nat)) ∧ ∃ m, w' = w.drewN m := by
  have c0 := h.cell 0
  have c1 := h.cell 1
  have hr0 : ¬ ((room : Int) = 0) := by omega
  have e1 := IntWalk.i64_in ((first : Int) + k) (by omega)
  have e2 : ((first : Int) + (k : Int)).tmod (room : Int) = (((first + k) % room : Nat) : Int) := by
    rw [Int.tmod_eq_emod_of_nonneg (by omega)]
    simp
  have hm : (first + k) % room < room := Nat.mod_lt _ hpos
  obtain ⟨X, hX⟩ : ∃ X, (first + k) % room = X := ⟨_, rfl⟩
  rw [hX] at e2 hm ⊢
  have e3 := IntWalk.i64_in (X : Int) (by omega)
  clear h hX
  go_enter Try.func25, Try.ntmps25
  go_wp2
  go_quiet (fail)
  go_wp2
  go_ret
  exact ⟨rfl, _, rfl⟩

theorem pop_nil (w : World) : Calls Try.prog 21 #[.pointer none] w fun e w' => e = .returned (.tuple #[(.agg #[.int .i64 0, .string ⟨#[]⟩, .int .i64 0, .int .i64 0, .int .i64 0, .int .i64 0, .int .u16 0, .int .i64 0]), .bool false]) ∧ Below w.heap.size w w' := by
  have HH := Lib.hid (show Holds ((w.alloc (.cells #[.int .i64 0, .string ⟨#[]⟩, .int .i64 0, .int .i64 0, .int .i64 0, .int .i64 0, .int .u16 0, .int .i64 0] 41)).alloc (.cells #[.int .i64 0, .string ⟨#[]⟩, .int .i64 0, .int .i64 0, .int .i64 0, .int .i64 0, .int .u16 0, .int .i64 0] 41)) w.heap.size 41 (ev8 evZ).toArray from (Holds.new w _ _).alloc _)
  have HG := Lib.hid (show Holds ((w.alloc (.cells #[.int .i64 0, .string ⟨#[]⟩, .int .i64 0, .int .i64 0, .int .i64 0, .int .i64 0, .int .u16 0, .int .i64 0] 41)).alloc (.cells #[.int .i64 0, .string ⟨#[]⟩, .int .i64 0, .int .i64 0, .int .i64 0, .int .i64 0, .int .u16 0, .int .i64 0] 41)) (w.heap.size + 1) 41 (ev8 evZ).toArray from by
    have := Holds.new (w.alloc (.cells #[.int .i64 0, .string ⟨#[]⟩, .int .i64 0, .int .i64 0, .int .i64 0, .int .i64 0, .int .u16 0, .int .i64 0] 41)) 41 #[.int .i64 0, .string ⟨#[]⟩, .int .i64 0, .int .i64 0, .int .i64 0, .int .i64 0, .int .u16 0, .int .i64 0]
    rwa [size_alloc] at this)
  have HB := Lib.hid (show Below w.heap.size w ((w.alloc (.cells #[.int .i64 0, .string ⟨#[]⟩, .int .i64 0, .int .i64 0, .int .i64 0, .int .i64 0, .int .u16 0, .int .i64 0] 41)).alloc (.cells #[.int .i64 0, .string ⟨#[]⟩, .int .i64 0, .int .i64 0, .int .i64 0, .int .i64 0, .int .u16 0, .int .i64 0] 41)) from (below_alloc _ _).alloc (by simp) _)
  go_enter Try.func21, Try.ntmps21
  go_wp2_with (first
    | (go_at_call 22; refine (len_nil _).mono ?_; rintro e wx ⟨rfl, hwx⟩; subst wx)
    | (refine wpList_load_at rfl 41 (.tmp 4) rfl (w.heap.size + 1) 0 rfl 41 _ (ev8 evZ) _ HG.out (ev8_at evZ) Try.underlying41 rfl (ev_size' evZ) ?_)
    | (refine wpList_store_at rfl 41 (.tmp 2) (.tmp 9) rfl w.heap.size 0 (ev8 evZ) rfl rfl 41 (ev8 evZ) HH.out (ev_size' evZ) (Nat.le_refl 8) (ev8_one evZ) ?_; rw [splice_all (ev8 evZ) (ev8 evZ) rfl]))
  refine bodyPost_ret (results_row_tmp rfl _ _ w.heap.size 41 (ev8 evZ) _ _ rfl (HH.out.row _) Try.underlying41 rfl (ev_size' evZ) rfl) rfl ?_
  exact ⟨rfl, HB.out.grown (grown_row _ w.heap.size _) (by simp; omega) (fun k e => by cases e; exact Nat.le_refl _)⟩
end RE
end Go.Proofs.Ytjifnnloncanpaa

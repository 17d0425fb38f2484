/- Texts of this seat, one behind the other. -/
import Derived.Test.YtgmeakcfiaopcaaGreatBunA
import Derived.Test.YtgmeakcfiaopcaaGreatProg
import Derived.Outline
import Derived.LoopTactic
import Derived.Deep.RegionLaw
import Derived.Deep.CutBlock
import Derived.RangeFuncNested
import Derived.RangeFuncBound
import Derived.RangeFuncCalls
import Derived.RangeFuncLeaves
import Derived.RangeFuncWrites
import Derived.Shelf.Abstract
import Derived.OwnWalkIn
import Derived.TacticsInMore
import Derived.LoopNIn
import Derived.LoopIn
/- Rows of three integers each, as cells; cells loaded and stored at a place within a block. Nothing here speaks of one program. -/
namespace Go.Proofs.YtgmeakcfiaopcaaGreat
open Go.RowKit

abbrev Ent := Int × Int × Int
/-- The cells of entries, one behind the other. -/
def trs (L : List Ent) : List Value := L.flatMap fun e => [.int .i64 e.1, .int .i64 e.2.1, .int .i64 e.2.2]
theorem trs_nil : trs [] = [] := rfl
theorem trs_cons (e : Ent) (L : List Ent) : trs (e :: L) = .int .i64 e.1 :: .int .i64 e.2.1 :: .int .i64 e.2.2 :: trs L := rfl
theorem trs_append (L M : List Ent) : trs (L ++ M) = trs L ++ trs M := by simp [trs]
theorem trs_len : ∀ L : List Ent, (trs L).length = L.length * 3
  | [] => rfl
  | e :: L => by rw [trs_cons]; simp [trs_len L]; omega
theorem trs_take : ∀ (L : List Ent) (i : Nat), (trs L).take (i * 3) = trs (L.take i)
  | [], _ => by simp [trs_nil]
  | _ :: _, 0 => by simp [trs_nil]
  | e :: L, i + 1 => by rw [List.take_succ_cons, trs_cons, trs_cons, ← trs_take L i, show (i + 1) * 3 = i * 3 + 1 + 1 + 1 by omega, List.take_succ_cons, List.take_succ_cons, List.take_succ_cons]
theorem trs_drop : ∀ (L : List Ent) (i : Nat), (trs L).drop (i * 3) = trs (L.drop i)
  | [], _ => by simp [trs_nil]
  | _ :: _, 0 => by simp
  | e :: L, i + 1 => by rw [List.drop_succ_cons, trs_cons, ← trs_drop L i, show (i + 1) * 3 = i * 3 + 1 + 1 + 1 by omega, List.drop_succ_cons, List.drop_succ_cons, List.drop_succ_cons]
theorem trs_get : ∀ (L : List Ent) (i : Nat) (e : Ent), L[i]? = some e → (trs L)[i * 3]? = some (.int .i64 e.1) ∧ (trs L)[i * 3 + 1]? = some (.int .i64 e.2.1) ∧ (trs L)[i * 3 + 2]? = some (.int .i64 e.2.2)
  | x :: L, 0, e, h => by
    simp only [List.getElem?_cons_zero, Option.some.injEq] at h
    subst h
    exact ⟨rfl, rfl, rfl⟩
  | x :: L, i + 1, e, h => by
    have := trs_get L i e (by simpa using h)
    rw [trs_cons, show (i + 1) * 3 = i * 3 + 1 + 1 + 1 by omega]
    simpa using this
theorem trs_set : ∀ (L : List Ent) (i : Nat) (e : Ent), i < L.length → trs (L.set i e) = (((trs L).set (i * 3) (.int .i64 e.1)).set (i * 3 + 1) (.int .i64 e.2.1)).set (i * 3 + 2) (.int .i64 e.2.2)
  | x :: L, 0, e, _ => rfl
  | x :: L, i + 1, e, h => by
    rw [List.set_cons_succ, trs_cons, trs_cons, trs_set L i e (by simpa using h), show (i + 1) * 3 = i * 3 + 1 + 1 + 1 by omega]
    rfl
theorem trs_one (L : List Ent) : ∀ v ∈ trs L, v.oneCell' = true := by
  intro v hv
  simp [trs] at hv
  obtain ⟨a, b, c, _, rfl | rfl | rfl⟩ := hv <;> rfl

theorem own_keep' {w w' : World} {B : Nat} {e : TypeId} {v : Value} {m k : Nat} {xs : List Value} (h : w.ownsRow B e k v m xs) (hb : Below w.heap.size w w') : w'.ownsRow B e k v m xs :=
  own_chg h (Chg.of_below (fun _ => False) hb) (fun _ _ h => h)
section
variable {P : Program}
/-- A struct's cells, loaded from a place within a block. -/
theorem run_loadVar_at (w : World) (g o : Nat) (t ty : TypeId) (cur : Array Value) (cs : List Value) (d : TypeDesc) (hg : Holds w g t cur) (hcs : ∀ j v, cs[j]? = some v → cur[o + j]? = some v)
    (hu : P.underlying ty = some d) (hd : (match d with | .struct _ | .array _ _ => true | _ => false) = true) (hi : (P.info? ty).map (·.size) = some cs.length) :
    (loadVar ty ⟨g, o, none⟩).run P w = .ok (.agg cs.toArray) w := by
  have hl : (loadCells ⟨g, o, none⟩ cs.length).run P w = .ok cs.toArray w :=
    run_loadCells_list (P := P) w ⟨g, o, none⟩ cs (fun j v hv => by
      have hadd : (⟨g, o, none⟩ : Addr).add j = ⟨g, o + j, none⟩ := by unfold Addr.add; split <;> simp_all
      rw [hadd, hg.cell]
      exact hcs j v hv)
  cases hq : P.info? ty with
  | none => simp [hq] at hi
  | some i =>
    have hs : i.size = cs.length := by simpa [hq] using hi
    have hagg : (isAgg ty).run P w = .ok true w := by
      unfold isAgg
      rw [Sem.run_bind, run_underlying hu w]
      cases d <;> simp_all
    simp [loadVar, Sem.run_bind, hagg, sizeOf, typeInfo, hq, hs, hl]
theorem wpList_load_at {ops : Array Oper} {rest : List Oper} {o : Oper} {a : Act} {w : World} {Q : Exit → Act → World → Prop} (hgd : o.guard = none) (ty : TypeId) (x : Operand) (ho : o.op = .load ty x)
    (g off : Nat) (hx : a.eval x = .pointer (some ⟨g, off, none⟩)) (t : TypeId) (cur : Array Value) (cs : List Value) (d : TypeDesc) (hg : Holds w g t cur) (hcs : ∀ j v, cs[j]? = some v → cur[off + j]? = some v)
    (hu : P.underlying ty = some d) (hd : (match d with | .struct _ | .array _ _ => true | _ => false) = true) (hi : (P.info? ty).map (·.size) = some cs.length)
    (h : wpList P ops Q rest (a.put o.dst (.agg cs.toArray)) w) : wpList P ops Q (o :: rest) a w :=
  wpList_plain hgd fun _ hK => by
    unfold Oper.wp execOp
    simp only [ho, hx, Instr.loadAt, Instr.sureAddr, Sem.run_bind, Sem.run_pure, Result.andThen_ok, run_loadVar_at w g off t ty cur cs d hg hcs hu hd hi]
    exact hK _ _ h
/-- A struct's cells, stored at a place within a block. -/
theorem run_storeVar_at (w : World) (g o : Nat) (t ty : TypeId) (cur cells : List Value) (hg : Holds w g t cur.toArray) (hi : (P.info? ty).map (·.size) = some cells.length)
    (ho : o + cells.length ≤ cur.length) (h1 : ∀ v ∈ cells, v.oneCell' = true) :
    (storeVar ty ⟨g, o, none⟩ (.agg cells.toArray)).run P w = .ok () (w.setRow g (splice cur o cells).toArray) := by
  have := run_storeCells_at P g o t cells 0 cur.toArray w hg (by simpa using ho) h1
  cases hq : P.info? ty with
  | none => simp [hq] at hi
  | some i =>
    have hs : cells.length = i.size := by simp [hq] at hi; omega
    simp [storeVar, sizeOf, typeInfo, hq, Value.cells, hs, this, splice]
theorem wpList_store_at {ops : Array Oper} {rest : List Oper} {o : Oper} {a : Act} {w : World} {Q : Exit → Act → World → Prop} (hgd : o.guard = none) (ty : TypeId) (x y : Operand) (ho : o.op = .store ty x y)
    (g off : Nat) (cells : List Value) (hx : a.eval x = .pointer (some ⟨g, off, none⟩)) (hy : a.eval y = .agg cells.toArray)
    (t : TypeId) (cur : List Value) (hg : Holds w g t cur.toArray) (hi : (P.info? ty).map (·.size) = some cells.length)
    (hfit : off + cells.length ≤ cur.length) (h1 : ∀ v ∈ cells, v.oneCell' = true)
    (h : wpList P ops Q rest (a.put o.dst undef) (w.setRow g (splice cur off cells).toArray)) : wpList P ops Q (o :: rest) a w :=
  wpList_plain hgd fun _ hK => by
    unfold Oper.wp execOp
    simp only [ho, hx, hy, Instr.storeAt, Instr.sureAddr, Sem.run_bind, Sem.run_pure, Result.andThen_ok, run_storeVar_at w g off t ty cur cells hg hi hfit h1]
    exact hK _ _ h
/-- As one step of a region that draws its order. -/
theorem wp_store_at {o : Oper} {a : Act} {w : World} {K : Act → World → Prop} {Q : Exit → Act → World → Prop} (ty : TypeId) (x y : Operand) (ho : o.op = .store ty x y)
    (g off : Nat) (cells : List Value) (hx : a.eval x = .pointer (some ⟨g, off, none⟩)) (hy : a.eval y = .agg cells.toArray)
    (t : TypeId) (cur : List Value) (hg : Holds w g t cur.toArray) (hi : (P.info? ty).map (·.size) = some cells.length)
    (hfit : off + cells.length ≤ cur.length) (h1 : ∀ v ∈ cells, v.oneCell' = true)
    (h : K (a.put o.dst undef) (w.setRow g (splice cur off cells).toArray)) : Oper.wp P o a w K Q := by
  unfold Oper.wp execOp
  simp only [ho, hx, hy, Instr.storeAt, Instr.sureAddr, Sem.run_bind, Sem.run_pure, Result.andThen_ok, run_storeVar_at w g off t ty cur cells hg hi hfit h1]
  exact h
end

/-- What a call answers whose first result lies in a cell of its own. -/
theorem results_row_tmp {P : Program} {fn : Func} {p u : Tmp} {ty : TypeId} (h : fn.results = #[.cell p ty, .tmp u]) (tmps : Array Value) (w : World) (g : Nat) (t : TypeId) (cs : List Value) (d : TypeDesc) (v : Value)
    (hp : tmps.getD p undef = .pointer (some ⟨g, 0, none⟩)) (hg : Holds w g t cs.toArray) (hu : P.underlying ty = some d) (hd : (match d with | .struct _ | .array _ _ => true | _ => false) = true) (hi : (P.info? ty).map (·.size) = some cs.length)
    (hv : tmps.getD u undef = v) : (results fn tmps).run P w = .ok (.tuple #[.agg cs.toArray, v]) w := by
  have hp' : tmps[p]?.getD undef = .pointer (some ⟨g, 0, none⟩) := by simpa using hp
  have hv' : tmps[u]?.getD undef = v := by simpa using hv
  have hl := run_loadVar_at (P := P) w g 0 t ty cs.toArray cs d hg (fun j v hv => by simpa using hv) hu hd hi
  simp [results, h, hp', hv', asAddr, hl]

theorem splice_all {α : Type} (cur new : List α) (h : new.length = cur.length) : splice cur 0 new = new := by
  unfold splice
  rw [List.take_zero, List.nil_append, Nat.zero_add, List.drop_eq_nil_of_le (by omega), List.append_nil]
theorem splice_mid {α : Type} (pre mid post new : List α) (i : Nat) (h : i + new.length ≤ mid.length) : splice (pre ++ (mid ++ post)) (pre.length + i) new = pre ++ (splice mid i new ++ post) := by
  unfold splice
  rw [List.take_append, List.take_of_length_le (by omega), show pre.length + i - pre.length = i by omega, List.take_append_of_le_length (by omega), List.append_assoc, List.append_assoc, List.append_assoc]
  congr 2
  rw [List.drop_append, List.drop_eq_nil_of_le (by omega), List.nil_append, show pre.length + i + new.length - pre.length = i + new.length by omega, List.drop_append_of_le_length (by omega)]
theorem set_mid {α : Type} (pre mid post : List α) (i : Nat) (x : α) (h : i < mid.length) : (pre ++ (mid ++ post)).set (pre.length + i) x = pre ++ (mid.set i x ++ post) := by
  rw [List.set_append_right _ _ (by omega), show pre.length + i - pre.length = i by omega, List.set_append_left _ _ h]
theorem get_mid {α : Type} (pre mid post : List α) (i : Nat) (h : i < mid.length) : (pre ++ (mid ++ post))[pre.length + i]? = mid[i]? := by
  rw [List.getElem?_append_right (by omega), show pre.length + i - pre.length = i by omega, List.getElem?_append_left h]

/-- An empty table's cells. -/
def zeroT : List Value := trs (List.replicate 8 (0, 0, 0)) ++ [Value.int .i64 0]
theorem zeroT_one : ∀ v ∈ zeroT, v.oneCell' = true := by decide +kernel
/-- A table's cells (eight places, and how many there are), behind the cells pre and ahead of the cells post. -/
def tcs (pre post : List Value) (K : List Ent) (n : Int) : List Value := pre ++ ((trs K ++ [Value.int .i64 n]) ++ post)
section
variable {pre post : List Value} {K : List Ent} {n : Int} {o : Nat}
theorem tcs_len (hK : K.length = 8) (ho : pre.length = o) : (tcs pre post K n).length = o + 25 + post.length := by
  unfold tcs
  rw [List.length_append, List.length_append, List.length_append, trs_len, hK, ho, List.length_singleton]
  omega
theorem tcs_mid (hK : K.length = 8) : (trs K ++ [Value.int .i64 n]).length = 25 := by rw [List.length_append, trs_len, hK]; rfl
theorem tcs_num (hK : K.length = 8) (ho : pre.length = o) : (tcs pre post K n)[o + 24]? = some (.int .i64 n) := by
  have hm := tcs_mid (n := n) hK
  unfold tcs
  rw [← ho, get_mid _ _ _ _ (by omega), List.getElem?_append_right (by rw [trs_len]; omega), trs_len, hK]
  rfl
theorem tcs_at (hK : K.length = 8) (ho : pre.length = o) {i : Nat} (hi : i < 24) : (tcs pre post K n)[o + i]? = (trs K)[i]? := by
  have hm := tcs_mid (n := n) hK
  unfold tcs
  rw [← ho, get_mid _ _ _ _ (by omega), List.getElem?_append_left (by rw [trs_len]; omega)]
theorem tcs_count (hK : K.length = 8) (ho : pre.length = o) (m : Int) : (tcs pre post K n).toArray.setIfInBounds (o + 24) (.int .i64 m) = (tcs pre post K m).toArray := by
  have hm := tcs_mid (n := n) hK
  unfold tcs
  rw [← ho, List.setIfInBounds_toArray, set_mid _ _ _ _ _ (by omega), List.set_append_right _ _ (by rw [trs_len]; omega), trs_len, hK]
  rfl
theorem tcs_put (hK : K.length = 8) (ho : pre.length = o) {i : Nat} (hi : i < 8) (e : Ent) : splice (tcs pre post K n) (o + i * 3) [.int .i64 e.1, .int .i64 e.2.1, .int .i64 e.2.2] = tcs pre post (K.set i e) n := by
  have hm := tcs_mid (n := n) hK
  unfold tcs
  rw [← ho, splice_mid _ _ _ _ _ (by rw [hm]; simp; omega)]
  congr 2
  have h1 : K.set i e = K.take i ++ e :: K.drop (i + 1) := by rw [List.set_eq_take_append_cons_drop, if_pos (by omega)]
  have hl : i * 3 ≤ (trs K).length := by rw [trs_len, hK]; omega
  rw [h1, trs_append, trs_cons, ← trs_take, ← trs_drop]
  unfold splice
  rw [List.take_append_of_le_length hl, List.drop_append_of_le_length (by rw [trs_len, hK]; simp; omega), show (i + 1) * 3 = i * 3 + 3 by omega]
  simp
theorem tcs_copy (hK : K.length = 8) (ho : pre.length = o) (x : Ent) (hx : K.drop 7 = [x]) : splice (tcs pre post K n) o (trs (K.drop 1)) = tcs pre post (K.drop 1 ++ [x]) n := by
  have hm := tcs_mid (n := n) hK
  have hs := splice_mid pre (trs K ++ [Value.int .i64 n]) post (trs (K.drop 1)) 0 (by rw [hm, trs_len, List.length_drop]; omega)
  rw [Nat.add_zero, ho] at hs
  unfold tcs
  rw [hs]
  congr 2
  unfold splice
  rw [List.take_zero, List.nil_append, trs_append, List.append_assoc]
  congr 1
  have hl : (trs (K.drop 1)).length = 7 * 3 := by rw [trs_len, List.length_drop, hK]
  rw [hl, Nat.zero_add, List.drop_append_of_le_length (by rw [trs_len, hK]; omega), trs_drop, hx]
theorem tcs_zero (hK : K.length = 8) (ho : pre.length = o) (K' : List Ent) (hK' : K'.length = 8) (m : Int) : splice (tcs pre post K n) o (trs K' ++ [Value.int .i64 m]) = tcs pre post K' m := by
  have hm := tcs_mid (n := n) hK
  have hm' := tcs_mid (n := m) hK'
  have hs := splice_mid pre (trs K ++ [Value.int .i64 n]) post (trs K' ++ [Value.int .i64 m]) 0 (by omega)
  rw [Nat.add_zero, ho, splice_all _ _ (by omega)] at hs
  exact hs
end
end Go.Proofs.YtgmeakcfiaopcaaGreat

/- Package table: what a table is in memory; Good, Len, Last. -/
namespace Go.Proofs.YtgmeakcfiaopcaaGreat
open Go.RowKit
set_option linter.unusedSimpArgs false
set_option linter.unusedVariables false

/-- Can an entry be? -/
structure CanE (e : Ent) : Prop where
  l1 : 0 ≤ e.1
  l2 : e.1 ≤ 1125899906842624
  o1 : -1125899906842624 ≤ e.2.1
  o2 : e.2.1 ≤ 1125899906842624
  h1 : 1 ≤ e.2.2
  h2 : e.2.2 ≤ 63
theorem not_canE {a b c : Int} (h : ¬ CanE (a, b, c)) : a < 0 ∨ (0 ≤ a ∧ 1125899906842624 < a) ∨ (0 ≤ a ∧ a ≤ 1125899906842624 ∧ b < -1125899906842624) ∨ (0 ≤ a ∧ a ≤ 1125899906842624 ∧ -1125899906842624 ≤ b ∧ 1125899906842624 < b)
    ∨ (0 ≤ a ∧ a ≤ 1125899906842624 ∧ -1125899906842624 ≤ b ∧ b ≤ 1125899906842624 ∧ c < 1) ∨ (0 ≤ a ∧ a ≤ 1125899906842624 ∧ -1125899906842624 ≤ b ∧ b ≤ 1125899906842624 ∧ 1 ≤ c ∧ 63 < c) := by
  refine Classical.byContradiction fun g => h ⟨?_, ?_, ?_, ?_, ?_, ?_⟩ <;> dsimp only <;> omega
/-- An entry as a value. -/
def entV (e : Ent) : Value := .agg #[.int .i64 e.1, .int .i64 e.2.1, .int .i64 e.2.2]

theorem good_yes (a b c : Int) (w : World) (h : CanE (a, b, c)) :
    Calls Tryz.prog 29 #[.agg #[.int .i64 a, .int .i64 b, .int .i64 c]] w fun e w' => e = .returned (.bool true) ∧ Below w.heap.size w w' := by
  obtain ⟨h1, h2, h3, h4, h5, h6⟩ := h
  dsimp only at h1 h2 h3 h4 h5 h6
  have d1 : decide (a < 0) = false := decide_eq_false (by omega)
  have d2 : decide (1125899906842624 < a) = false := decide_eq_false (by omega)
  have d3 : decide (b < -1125899906842624) = false := decide_eq_false (by omega)
  have d4 : decide (1125899906842624 < b) = false := decide_eq_false (by omega)
  have k := (Holds.new w 49 #[.int .i64 a, .int .i64 b, .int .i64 c])
  have c0 := k.cell 0
  have c1 := k.cell 1
  have c2 := k.cell 2
  clear k
  go_enter Tryz.func29, Tryz.ntmps29
  go_wp2
  go_ret
  exact ⟨rfl, below_alloc _ _⟩
theorem good_no (a b c : Int) (w : World) (h : ¬ CanE (a, b, c)) :
    Calls Tryz.prog 29 #[.agg #[.int .i64 a, .int .i64 b, .int .i64 c]] w fun e w' => e = .returned (.bool false) ∧ Below w.heap.size w w' := by
  have k := (Holds.new w 49 #[.int .i64 a, .int .i64 b, .int .i64 c])
  have c0 := k.cell 0
  have c1 := k.cell 1
  have c2 := k.cell 2
  clear k
  rcases not_canE h with h1 | ⟨h1, h2⟩ | ⟨h1, h2, h3⟩ | ⟨h1, h2, h3, h4⟩ | ⟨h1, h2, h3, h4, h5⟩ | ⟨h1, h2, h3, h4, h5, h6⟩
  all_goals
    clear h
    try have d1 : decide (a < 0) = false := decide_eq_false (by omega)
    try have d2 : decide (1125899906842624 < a) = false := decide_eq_false (by omega)
    try have d3 : decide (b < -1125899906842624) = false := decide_eq_false (by omega)
    try have d4 : decide (1125899906842624 < b) = false := decide_eq_false (by omega)
    try have d5 : decide (1 ≤ c) = false := decide_eq_false (by omega)
    try have d6 : decide (c ≤ 63) = false := decide_eq_false (by omega)
    go_enter Tryz.func29, Tryz.ntmps29
    go_wp2
    go_ret
    exact ⟨rfl, below_alloc _ _⟩
theorem rgood_yes (a b c : Int) (w : World) (h : CanE (a, b, c)) :
    Calls Tryz.prog 50 #[.agg #[.int .i64 a, .int .i64 b, .int .i64 c]] w fun e w' => e = .returned (.bool true) ∧ Below w.heap.size w w' := by
  obtain ⟨h1, h2, h3, h4, h5, h6⟩ := h
  dsimp only at h1 h2 h3 h4 h5 h6
  have k := (Holds.new w 51 #[.int .i64 a, .int .i64 b, .int .i64 c])
  have c0 := k.cell 0
  have c1 := k.cell 1
  have c2 := k.cell 2
  clear k
  go_enter Tryz.func50, Tryz.ntmps50
  go_wp2
  go_ret
  exact ⟨rfl, below_alloc _ _⟩
theorem rgood_no (a b c : Int) (w : World) (h : ¬ CanE (a, b, c)) :
    Calls Tryz.prog 50 #[.agg #[.int .i64 a, .int .i64 b, .int .i64 c]] w fun e w' => e = .returned (.bool false) ∧ Below w.heap.size w w' := by
  have k := (Holds.new w 51 #[.int .i64 a, .int .i64 b, .int .i64 c])
  have c0 := k.cell 0
  have c1 := k.cell 1
  have c2 := k.cell 2
  clear k
  rcases not_canE h with h1 | ⟨h1, h2⟩ | ⟨h1, h2, h3⟩ | ⟨h1, h2, h3, h4⟩ | ⟨h1, h2, h3, h4, h5⟩ | ⟨h1, h2, h3, h4, h5, h6⟩
  all_goals
    clear h
    try have d1 : decide (0 ≤ a) = false := decide_eq_false (by omega)
    try have d2 : decide (a ≤ 1125899906842624) = false := decide_eq_false (by omega)
    try have d3 : decide (-1125899906842624 ≤ b) = false := decide_eq_false (by omega)
    try have d4 : decide (b ≤ 1125899906842624) = false := decide_eq_false (by omega)
    try have d5 : decide (1 ≤ c) = false := decide_eq_false (by omega)
    try have d6 : decide (c ≤ 63) = false := decide_eq_false (by omega)
    go_enter Tryz.func50, Tryz.ntmps50
    go_wp2
    go_ret
    exact ⟨rfl, below_alloc _ _⟩

/-- A table within block g, behind the cells pre and ahead of the cells post: K is its eight places, of which the first are its entries. -/
structure T0 (w : World) (g o : Nat) (t : TypeId) (pre post : List Value) (K L : List Ent) : Prop where
  at' : pre.length = o
  eight : K.length = 8
  le : L.length ≤ 8
  is : K.take L.length = L
  holds : Holds w g t (tcs pre post K L.length).toArray
def Tb (w : World) (g o : Nat) (t : TypeId) (pre post : List Value) (L : List Ent) : Prop := ∃ K, T0 w g o t pre post K L
section
variable {w w' : World} {g o : Nat} {t : TypeId} {pre post : List Value} {K L : List Ent}
theorem T0.count (h : T0 w g o t pre post K L) : w.cell? ⟨g, o + 24, none⟩ = some (.int .i64 L.length) := by
  rw [h.holds.cell, List.getElem?_toArray, tcs_num h.eight h.at']
theorem T0.soft (h : T0 w g o t pre post K L) (i : Nat) : w.frozen? ⟨g, i, none⟩ = false := h.holds.soft i
theorem T0.place (h : T0 w g o t pre post K L) {i : Nat} {e : Ent} (hi : K[i]? = some e) :
    w.cell? ⟨g, o + i * 3, none⟩ = some (.int .i64 e.1) ∧ w.cell? ⟨g, o + i * 3 + 1, none⟩ = some (.int .i64 e.2.1) ∧ w.cell? ⟨g, o + i * 3 + 2, none⟩ = some (.int .i64 e.2.2) := by
  have hi8 : i < 8 := by have := (List.getElem?_eq_some_iff.1 hi).1; rw [h.eight] at this; exact this
  obtain ⟨g0, g1, g2⟩ := trs_get K i e hi
  have key : ∀ j, j < 24 → w.cell? ⟨g, o + j, none⟩ = (trs K)[j]? := fun j hj => by
    rw [h.holds.cell, List.getElem?_toArray, tcs_at h.eight h.at' hj]
  exact ⟨(key _ (by omega)).trans g0, by rw [Nat.add_assoc]; exact (key _ (by omega)).trans g1, by rw [Nat.add_assoc]; exact (key _ (by omega)).trans g2⟩
theorem T0.ent (h : T0 w g o t pre post K L) {i : Nat} (hi : i < L.length) : K[i]? = L[i]? := by
  have := congrArg (·[i]?) h.is
  simp only [List.getElem?_take, if_pos hi] at this
  exact this
theorem T0.at (h : T0 w g o t pre post K L) {i : Nat} {e : Ent} (hi : L[i]? = some e) :
    w.cell? ⟨g, o + i * 3, none⟩ = some (.int .i64 e.1) ∧ w.cell? ⟨g, o + i * 3 + 1, none⟩ = some (.int .i64 e.2.1) ∧ w.cell? ⟨g, o + i * 3 + 2, none⟩ = some (.int .i64 e.2.2) :=
  h.place ((h.ent (List.getElem?_eq_some_iff.1 hi).1).trans hi)
theorem T0.chg {S : Nat → Prop} (h : T0 w g o t pre post K L) (hc : Chg S w w') (hn : ¬ S g) : T0 w' g o t pre post K L := { h with holds := h.holds.chg hc hn }
theorem Tb.chg {S : Nat → Prop} (h : Tb w g o t pre post L) (hc : Chg S w w') (hn : ¬ S g) : Tb w' g o t pre post L := by
  obtain ⟨K, h⟩ := h
  exact ⟨K, h.chg hc hn⟩
theorem Tb.below (h : Tb w g o t pre post L) (hb : Below w.heap.size w w') : Tb w' g o t pre post L := h.chg (Chg.of_below (fun _ => False) hb) id
theorem Tb.lt (h : Tb w g o t pre post L) : g < w.heap.size := by
  obtain ⟨K, h⟩ := h
  exact h.holds.lt
theorem Tb.le (h : Tb w g o t pre post L) : L.length ≤ 8 := by
  obtain ⟨K, h⟩ := h
  exact h.le
end

theorem len_any (w : World) (g o : Nat) (t : TypeId) (pre post : List Value) (L : List Ent) (h : Tb w g o t pre post L) :
    Calls Tryz.prog 69 #[.pointer (some ⟨g, o, none⟩)] w fun e w' => e = .returned (.int .i64 L.length) ∧ w' = w := by
  obtain ⟨K, h⟩ := h
  have c := h.count
  clear h
  go_enter Tryz.func69, Tryz.ntmps69
  go_wp2
  go_ret
  exact ⟨rfl, rfl⟩
theorem len_nil (w : World) : Calls Tryz.prog 69 #[.pointer none] w fun e w' => e = .returned (.int .i64 0) ∧ w' = w := by
  go_enter Tryz.func69, Tryz.ntmps69
  go_wp2
  go_ret
  exact ⟨rfl, rfl⟩

/-- Behind Last. -/
def Told (L : List Ent) (w : World) (e : Ending) (w' : World) : Prop :=
  (match L.getLast? with | none => e = .returned (.tuple #[.agg #[.int .i64 0, .int .i64 0, .int .i64 0], .bool false]) | some (a, b, c) => e = .returned (.tuple #[.agg #[.int .i64 a, .int .i64 b, .int .i64 c], .bool true])) ∧ Below w.heap.size w w'
theorem last_nil (w : World) : Calls Tryz.prog 73 #[.pointer none] w (Told [] w) := by
  have hend : ∀ w', Below w.heap.size w w' → Told [] w (.returned (.tuple #[.agg #[.int .i64 0, .int .i64 0, .int .i64 0], .bool false])) w' := fun w' hb => ⟨rfl, hb⟩
  have HE := Lib.hid hend
  clear hend
  go_enter Tryz.func73, Tryz.ntmps73
  go_wp2_with (go_at_call 69; refine (len_nil _).mono ?_; rintro e w' ⟨rfl, rfl⟩)
  (try simp only [Exit.inBlock, Exit.then])
  refine bodyPost_ret (results_row_tmp rfl _ _ w.heap.size 49 [.int .i64 0, .int .i64 0, .int .i64 0] _ _ rfl (Holds.new w _ _) Tryz.underlying49 rfl (by kernel_rfl) rfl) rfl ?_
  exact HE.out _ (below_alloc _ _)
theorem last_any (w : World) (g o : Nat) (t : TypeId) (pre post : List Value) (L : List Ent) (h : Tb w g o t pre post L) :
    Calls Tryz.prog 73 #[.pointer (some ⟨g, o, none⟩)] w (Told L w) := by
  have hlen := len_any (w.alloc (.cells #[.int .i64 0, .int .i64 0, .int .i64 0] 49)) g o t pre post L (h.below (below_alloc _ _))
  rcases List.eq_nil_or_concat L with rfl | ⟨M, x, rfl⟩
  · have hend : ∀ w', Below w.heap.size w w' → Told [] w (.returned (.tuple #[.agg #[.int .i64 0, .int .i64 0, .int .i64 0], .bool false])) w' := fun w' hb => ⟨rfl, hb⟩
    have HE := Lib.hid hend
    clear hend h
    go_enter Tryz.func73, Tryz.ntmps73
    go_wp2_with (go_at_call 69; refine hlen.mono ?_; rintro e w' ⟨rfl, rfl⟩)
    (try simp only [Exit.inBlock, Exit.then])
    refine bodyPost_ret (results_row_tmp rfl _ _ w.heap.size 49 [.int .i64 0, .int .i64 0, .int .i64 0] _ _ rfl (Holds.new w _ _) Tryz.underlying49 rfl (by kernel_rfl) rfl) rfl ?_
    exact HE.out _ (below_alloc _ _)
  · obtain ⟨a, b, c⟩ := x
    rw [List.concat_eq_append] at hlen h ⊢
    have hend : ∀ w', Below w.heap.size w w' → Told (M ++ [(a, b, c)]) w (.returned (.tuple #[.agg #[.int .i64 a, .int .i64 b, .int .i64 c], .bool true])) w' := fun w' hb => by
      refine ⟨?_, hb⟩
      rw [List.getLast?_append]
      rfl
    have HE := Lib.hid hend
    have hT := h.below (below_alloc w (.cells #[.int .i64 0, .int .i64 0, .int .i64 0] 49))
    have h8 := h.le
    obtain ⟨K, hT⟩ := hT
    have hm : (M ++ [(a, b, c)])[M.length]? = some (a, b, c) := by simp
    obtain ⟨q0, q1, q2⟩ := hT.at hm
    have qc := hT.count
    have hl : (M ++ [(a, b, c)]).length = M.length + 1 := by simp
    rw [hl] at hlen qc h8
    obtain ⟨m, hm'⟩ : ∃ m, M.length = m := ⟨_, rfl⟩
    rw [hm'] at hlen qc q0 q1 q2 h8
    have ew : IntKind.i64.wrap (((m + 1 : Nat) : Int) - 1) = (m : Int) := by
      rw [IntWalk.i64_in _ (by omega)]
      omega
    have ew2 : IntKind.i64.wrap (m : Int) = (m : Int) := IntWalk.i64_in _ (by omega)
    have hm8 : (m : Int) < 8 := by omega
    have hne : (((m + 1 : Nat) : Int) == 0) = false := by simp; omega
    have hX := Lib.hid (Holds.new w 49 #[.int .i64 0, .int .i64 0, .int .i64 0])
    clear hend h hT hm hl hm'
    go_enter Tryz.func73, Tryz.ntmps73
    go_wp2_with (go_at_call 69; refine hlen.mono ?_; rintro e w' ⟨rfl, rfl⟩)
    refine region_turns (fun (w' : World) => w'.cell? ⟨g, o + 24, none⟩ = some (.int .i64 ((m + 1 : Nat) : Int)) ∧ w'.cell? ⟨g, o + m * 3, none⟩ = some (.int .i64 a) ∧ w'.cell? ⟨g, o + m * 3 + 1, none⟩ = some (.int .i64 b) ∧ w'.cell? ⟨g, o + m * 3 + 2, none⟩ = some (.int .i64 c)) (fun j => decide (10 ≤ j)) (by kernel_rfl) (⟨qc, q0, q1, q2⟩) (fun hS => ?_)
    refine Turns.take hS 0 _ rfl (by kernel_rfl) (by kernel_rfl) (by kernel_rfl) (by kernel_rfl) (fun _ _ _ h => h) (by rfl) (fun w' hS' => by (try dsimp only at hS'); go_split_ands; go_simp; (try with_reducible rfl)) ?_
    simp only [Act.put, List.getElem_toArray, List.getElem_cons_succ, List.getElem_cons_zero, List.setIfInBounds_toArray, List.set_cons_zero, List.set_cons_succ]
    refine Turns.take hS 1 _ rfl (by kernel_rfl) (by kernel_rfl) (by kernel_rfl) (by kernel_rfl) (fun _ _ _ h => h) (by rfl) (fun w' hS' => by (try dsimp only at hS'); go_split_ands; go_simp; (try with_reducible rfl)) ?_
    simp only [Act.put, List.getElem_toArray, List.getElem_cons_succ, List.getElem_cons_zero, List.setIfInBounds_toArray, List.set_cons_zero, List.set_cons_succ]
    refine Turns.take hS 2 _ rfl (by kernel_rfl) (by kernel_rfl) (by kernel_rfl) (by kernel_rfl) (fun _ _ _ h => h) (by rfl) (fun w' hS' => by (try dsimp only at hS'); go_split_ands; go_simp; (try with_reducible rfl)) ?_
    simp only [Act.put, List.getElem_toArray, List.getElem_cons_succ, List.getElem_cons_zero, List.setIfInBounds_toArray, List.set_cons_zero, List.set_cons_succ]
    refine Turns.take hS 3 _ rfl (by kernel_rfl) (by kernel_rfl) (by kernel_rfl) (by kernel_rfl) (fun _ _ _ h => h) (by rfl) (fun w' hS' => by (try dsimp only at hS'); go_split_ands; go_simp; (try with_reducible rfl)) ?_
    simp only [Act.put, List.getElem_toArray, List.getElem_cons_succ, List.getElem_cons_zero, List.setIfInBounds_toArray, List.set_cons_zero, List.set_cons_succ]
    refine Turns.take hS 4 _ rfl (by kernel_rfl) (by kernel_rfl) (by kernel_rfl) (by kernel_rfl) (fun _ _ _ h => h) (by rfl) (fun w' hS' => by (try dsimp only at hS'); go_split_ands; go_simp; (try with_reducible rfl)) ?_
    simp only [Act.put, List.getElem_toArray, List.getElem_cons_succ, List.getElem_cons_zero, List.setIfInBounds_toArray, List.set_cons_zero, List.set_cons_succ]
    refine Turns.take hS 5 _ rfl (by kernel_rfl) (by kernel_rfl) (by kernel_rfl) (by kernel_rfl) (fun _ _ _ h => h) (by rfl) (fun w' hS' => by (try dsimp only at hS'); go_split_ands; go_simp; (try with_reducible rfl)) ?_
    simp only [Act.put, List.getElem_toArray, List.getElem_cons_succ, List.getElem_cons_zero, List.setIfInBounds_toArray, List.set_cons_zero, List.set_cons_succ]
    refine Turns.take hS 6 _ rfl (by kernel_rfl) (by kernel_rfl) (by kernel_rfl) (by kernel_rfl) (fun _ _ _ h => h) (by rfl) (fun w' hS' => by (try dsimp only at hS'); go_split_ands; go_simp; (try with_reducible rfl)) ?_
    simp only [Act.put, List.getElem_toArray, List.getElem_cons_succ, List.getElem_cons_zero, List.setIfInBounds_toArray, List.set_cons_zero, List.set_cons_succ]
    refine Turns.take hS 7 _ rfl (by kernel_rfl) (by kernel_rfl) (by kernel_rfl) (by kernel_rfl) (fun _ _ _ h => h) (by rfl) (fun w' hS' => by (try dsimp only at hS'); go_split_ands; go_simp; (try with_reducible rfl)) ?_
    simp only [Act.put, List.getElem_toArray, List.getElem_cons_succ, List.getElem_cons_zero, List.setIfInBounds_toArray, List.set_cons_zero, List.set_cons_succ]
    refine Turns.take hS 8 _ rfl (by kernel_rfl) (by kernel_rfl) (by kernel_rfl) (by kernel_rfl) (fun _ _ _ h => h) (by rfl) (fun w' hS' => by (try dsimp only at hS'); go_split_ands; go_simp; (try with_reducible rfl)) ?_
    simp only [Act.put, List.getElem_toArray, List.getElem_cons_succ, List.getElem_cons_zero, List.setIfInBounds_toArray, List.set_cons_zero, List.set_cons_succ]
    refine Turns.take hS 9 _ rfl (by kernel_rfl) (by kernel_rfl) (by kernel_rfl) (by kernel_rfl) (fun _ _ _ h => h) (by rfl) (fun w' hS' => by (try dsimp only at hS'); go_split_ands; go_simp; (try with_reducible rfl)) ?_
    simp only [Act.put, List.getElem_toArray, List.getElem_cons_succ, List.getElem_cons_zero, List.setIfInBounds_toArray, List.set_cons_zero, List.set_cons_succ]
    refine Turns.rest (late_done (by kernel_rfl)) ?_
    refine any_tail 10 (by rfl) (by kernel_rfl) ?_
    simp only [List.drop_succ_cons, List.drop_zero]
    clear hS
    go_wp2
    refine bodyPost_ret (results_row_tmp rfl _ _ w.heap.size 49 [.int .i64 a, .int .i64 b, .int .i64 c] _ _ rfl (Holds.drewN (Holds.new w _ _) 1) Tryz.underlying49 rfl (by kernel_rfl) rfl) rfl ?_
    exact HE.out _ (below_alloc _ _).drew
end Go.Proofs.YtgmeakcfiaopcaaGreat

/- Package table: Add, Clear. -/
namespace Go.Proofs.YtgmeakcfiaopcaaGreat
open Go.RowKit
set_option linter.unusedSimpArgs false
set_option linter.unusedVariables false

/-- Behind Add of one that is taken. -/
def pushL (L : List Ent) (e : Ent) : List Ent := if L.length = 8 then L.tail ++ [e] else L ++ [e]
theorem pushL_len {L : List Ent} (h : L.length ≤ 8) (e : Ent) : (pushL L e).length ≤ 8 := by
  unfold pushL
  split <;> simp <;> omega
/-- Is an entry later than all that there are? -/
def Later (L : List Ent) (e : Ent) : Prop := ∀ x, L.getLast? = some x → x.1 < e.1

theorem clear_nil (w : World) : Calls Tryz.prog 61 #[.pointer none] w fun e w' => e = .returned (.tuple #[]) ∧ w' = w := by
  go_enter Tryz.func61, Tryz.ntmps61
  go_wp2
  refine bodyPost_ret (results_none rfl _ _ _) rfl ?_
  exact ⟨rfl, rfl⟩
theorem clear_any (w : World) (g o : Nat) (t : TypeId) (pre post : List Value) (L : List Ent) (h : Tb w g o t pre post L) :
    Calls Tryz.prog 61 #[.pointer (some ⟨g, o, none⟩)] w fun e w' => e = .returned (.tuple #[]) ∧ Tb w' g o t pre post [] ∧ Chg (fun k => k = g) w w' := by
  obtain ⟨K, h⟩ := h
  have hfit : o + zeroT.length ≤ (tcs pre post K L.length).length := by
    rw [tcs_len h.eight h.at', show zeroT.length = 25 from rfl]
    omega
  have hend : Tb (w.setRow g (splice (tcs pre post K L.length) o zeroT).toArray) g o t pre post [] ∧ Chg (fun k => k = g) w (w.setRow g (splice (tcs pre post K L.length) o zeroT).toArray) := by
    have hr := h.holds.row (splice (tcs pre post K L.length) o zeroT).toArray
    refine ⟨⟨List.replicate 8 (0, 0, 0), h.at', rfl, Nat.zero_le _, rfl, ?_⟩, Chg.of_grown (grown_row w g _) (fun k e => by cases e; rfl)⟩
    unfold zeroT at hr ⊢
    rw [tcs_zero h.eight h.at' _ (by decide)] at hr ⊢
    exact hr
  have HE := Lib.hid hend
  have HF := Lib.hid hfit
  have HH := Lib.hid h.holds
  clear h hend hfit
  go_enter Tryz.func61, Tryz.ntmps61
  go_wp2_with (refine wpList_store_at rfl 85 (.tmp 6) (.tmp 5) rfl g o zeroT rfl rfl t _ HH.out (by kernel_rfl) HF.out zeroT_one ?_)
  go_end0
  exact ⟨rfl, HE.out⟩

theorem add_nil (a b c : Int) (w : World) : Calls Tryz.prog 62 #[.pointer none, .agg #[.int .i64 a, .int .i64 b, .int .i64 c]] w fun e w' => e = .returned (.int .i64 2) ∧ Below w.heap.size w w' := by
  go_enter Tryz.func62, Tryz.ntmps62
  go_wp2
  go_ret
  exact ⟨rfl, below_alloc _ _⟩
theorem add_bad (a b c : Int) (w : World) (p : Addr) (h : ¬ CanE (a, b, c)) : Calls Tryz.prog 62 #[.pointer (some p), .agg #[.int .i64 a, .int .i64 b, .int .i64 c]] w fun e w' => e = .returned (.int .i64 1) ∧ Below w.heap.size w w' := by
  have HB := Lib.hid (Box.start w 49 #[.int .i64 a, .int .i64 b, .int .i64 c])
  obtain ⟨c0, c1, c2, _⟩ := HB.out.cells3
  go_enter Tryz.func62, Tryz.ntmps62
  go_wp2_with (go_at_call 29; refine (good_no _ _ _ _ h).mono ?_; rintro e w2 ⟨rfl, hb⟩; replace HB := Lib.hid (HB.out.next hb); clear hb)
  go_ret
  exact ⟨rfl, HB.out.below⟩
theorem add_late (a b c : Int) (w : World) (g o : Nat) (t : TypeId) (pre post : List Value) (M : List Ent) (x y z : Int) (h : Tb w g o t pre post (M ++ [(x, y, z)])) (hc : CanE (a, b, c)) (hx : a ≤ x) :
    Calls Tryz.prog 62 #[.pointer (some ⟨g, o, none⟩), .agg #[.int .i64 a, .int .i64 b, .int .i64 c]] w fun e w' => e = .returned (.int .i64 12) ∧ Below w.heap.size w w' := by
  have HB := Lib.hid (Box.start w 49 #[.int .i64 a, .int .i64 b, .int .i64 c])
  obtain ⟨c0, c1, c2, _⟩ := HB.out.cells3
  have hgl : (M ++ [(x, y, z)]).getLast? = some (x, y, z) := by simp
  have hl := fun W (hW : Below w.heap.size w W) => last_any W g o t pre post _ (h.below hW)
  unfold Told at hl
  simp only [hgl] at hl
  have HL := Lib.hid hl
  clear h hgl hl
  go_enter Tryz.func62, Tryz.ntmps62
  go_wp2_with (first
    | (go_at_call 29; refine (good_yes _ _ _ _ hc).mono ?_; rintro e w2 ⟨rfl, hb⟩; replace HB := Lib.hid (HB.out.next hb); obtain ⟨c0, c1, c2, _⟩ := HB.out.cells3; have hl := HL.out _ HB.out.below; clear hb)
    | (go_at_call 73; refine hl.mono ?_; rintro e w3 ⟨rfl, hb⟩; replace HB := Lib.hid ((HB.out.next hb).alloc (.cells #[.int .i64 x, .int .i64 y, .int .i64 z] 49)); obtain ⟨c0, c1, c2, _⟩ := HB.out.cells3; obtain ⟨l0, l1, l2⟩ : (w3.alloc (.cells #[.int .i64 x, .int .i64 y, .int .i64 z] 49)).cell? ⟨w3.heap.size, 0, none⟩ = some (.int .i64 x) ∧ (w3.alloc (.cells #[.int .i64 x, .int .i64 y, .int .i64 z] 49)).cell? ⟨w3.heap.size, 1, none⟩ = some (.int .i64 y) ∧ (w3.alloc (.cells #[.int .i64 x, .int .i64 y, .int .i64 z] 49)).cell? ⟨w3.heap.size, 2, none⟩ = some (.int .i64 z) := ⟨(Holds.new _ _ _).cell 0, (Holds.new _ _ _).cell 1, (Holds.new _ _ _).cell 2⟩; clear hb hl))
  go_ret
  exact ⟨rfl, HB.out.below⟩

/-- Behind Add of one that is taken. -/
def Added (g o : Nat) (t : TypeId) (pre post : List Value) (L : List Ent) (x : Ent) (w : World) (e : Ending) (w' : World) : Prop := e = .returned (.int .i64 0) ∧ Tb w' g o t pre post (pushL L x) ∧ Chg (fun k => k = g) w w'
theorem copy_run (W : World) (g o : Nat) (t : TypeId) (pre post : List Value) (K : List Ent) (n : Int) (x : Ent) (ty : TypeId) (hH : Holds W g t (tcs pre post K n).toArray) (hK : K.length = 8) (ho : pre.length = o) (hx : K.drop 7 = [x]) :
    (Builtin.copy_ #[150, 150] ty #[.slice (some ⟨g, o, none⟩) 8 8, .slice (some ⟨g, o + 3, none⟩) 7 7]).run Tryz.prog W = .ok (.int .i64 7) (W.setRow g (tcs pre post (K.drop 1 ++ [x]) n).toArray) := by
  have hd : (K.drop 1).length = 7 := by rw [List.length_drop, hK]
  have hl : (trs (K.drop 1)).length = 7 * 3 := by rw [trs_len, hd]
  have hr := run_copyK (P := Tryz.prog) W 150 150 ty 49 3 g o 8 8 ⟨g, o + 3, none⟩ 7 7 (tcs pre post K n) t (trs (K.drop 1)) Tryz.underlying150 (by kernel_rfl) hH (by rw [hl]; rfl)
    (fun j v hv => by
      have hj : j < 21 := by have := (List.getElem?_eq_some_iff.1 hv).1; omega
      rw [Go.WideShapes.add_plain, hH.cell, List.getElem?_toArray, Nat.add_assoc, tcs_at hK ho (by omega), ← hv, ← trs_drop, List.getElem?_drop])
    (by rw [tcs_len hK ho, hl]; omega) (trs_one _)
  rw [hr, tcs_copy hK ho x hx]
  rfl
theorem drop7 {K : List Ent} (h : K.length = 8) : ∃ x, K.drop 7 = [x] := by
  match K, h with
  | [_, _, _, _, _, _, _, x], _ => exact ⟨x, rfl⟩
set_option maxHeartbeats 2000000 in
theorem add_any (a b c : Int) (w : World) (g o : Nat) (t : TypeId) (pre post : List Value) (L : List Ent) (h : Tb w g o t pre post L) (hc : CanE (a, b, c)) (hx : Later L (a, b, c)) :
    Calls Tryz.prog 62 #[.pointer (some ⟨g, o, none⟩), .agg #[.int .i64 a, .int .i64 b, .int .i64 c]] w (Added g o t pre post L (a, b, c) w) := by
  have HB := Lib.hid (Box.start w 49 #[.int .i64 a, .int .i64 b, .int .i64 c])
  obtain ⟨c0, c1, c2, _⟩ := HB.out.cells3
  have hgw := h.lt
  have hl : ∀ W, Below w.heap.size w W → Calls Tryz.prog 73 #[.pointer (some ⟨g, o, none⟩)] W fun e w' => ∃ x y z ok, e = .returned (.tuple #[.agg #[.int .i64 x, .int .i64 y, .int .i64 z], .bool ok]) ∧ (ok = true → decide (a ≤ x) = false) ∧ Below W.heap.size W w' := fun W hW => by
    refine (last_any W g o t pre post L (h.below hW)).mono fun e w' hh => ?_
    obtain ⟨he, hb⟩ := hh
    unfold Later at hx
    cases hg : L.getLast? with
    | none =>
      rw [hg] at he
      exact ⟨0, 0, 0, false, he, (fun h => by cases h), hb⟩
    | some v =>
      obtain ⟨x, y, z⟩ := v
      rw [hg] at he
      have := hx _ hg
      dsimp only at this
      exact ⟨x, y, z, true, he, (fun _ => decide_eq_false (by omega)), hb⟩
  have HL := Lib.hid hl
  obtain ⟨K, h⟩ := h
  have HT := Lib.hid h
  clear h hl hx
  go_enter Tryz.func62, Tryz.ntmps62
  go_upto_region 8 with (first
    | (go_at_call 29; refine (good_yes _ _ _ _ hc).mono ?_; rintro e w2 ⟨rfl, hb⟩; replace HB := Lib.hid (HB.out.next hb); obtain ⟨c0, c1, c2, _⟩ := HB.out.cells3; have hl := HL.out _ HB.out.below; clear hb)
    | (go_at_call 73; refine hl.mono ?_; rintro e w3 ⟨x, y, z, ok, rfl, hok, hb⟩; replace HB := Lib.hid ((HB.out.next hb).alloc (.cells #[.int .i64 x, .int .i64 y, .int .i64 z] 49)); obtain ⟨c0, c1, c2, _⟩ := HB.out.cells3; obtain ⟨l0, l1, l2⟩ : (w3.alloc (.cells #[.int .i64 x, .int .i64 y, .int .i64 z] 49)).cell? ⟨w3.heap.size, 0, none⟩ = some (.int .i64 x) ∧ (w3.alloc (.cells #[.int .i64 x, .int .i64 y, .int .i64 z] 49)).cell? ⟨w3.heap.size, 1, none⟩ = some (.int .i64 y) ∧ (w3.alloc (.cells #[.int .i64 x, .int .i64 y, .int .i64 z] 49)).cell? ⟨w3.heap.size, 2, none⟩ = some (.int .i64 z) := ⟨(Holds.new _ _ _).cell 0, (Holds.new _ _ _).cell 1, (Holds.new _ _ _).cell 2⟩; rcases ok with _ | _ <;> simp only [Bool.false_eq_true, false_implies, true_implies] at hok; clear hb hl))
  all_goals
    obtain ⟨W0, hW0⟩ : ∃ W0, w3.alloc (.cells #[.int .i64 x, .int .i64 y, .int .i64 z] 49) = W0 := ⟨_, rfl⟩
    rw [hW0] at HB c0 c1 c2 ⊢
    have HC := Lib.hid (Chg.of_below (fun k => k = g) HB.out.below)
    have hT := HT.out.chg (Chg.of_below (fun _ => False) HB.out.below) id
    have HX := Lib.hid HB.out.holds
    have hct := hT.count
    have hle := hT.le
    clear hW0 l0 l1 l2 HB c0 c1 c2 hc hok HL HT
    obtain ⟨s, hs⟩ : ∃ s, w.heap.size = s := ⟨_, rfl⟩
    rw [hs] at HX hgw ⊢
    have hgs : g ≠ s := by omega
    by_cases h8 : L.length = 8
    case' pos =>
      have hKL : K = L := by rw [← hT.is, h8, List.take_of_length_le (by rw [hT.eight]; omega)]
      rw [h8] at hct
      obtain ⟨v, hv⟩ := drop7 hT.eight
      have hcp := fun ty => copy_run W0.drew g o t pre post K L.length v ty (hT.holds.drewN 1) hT.eight hT.at' hv
      obtain ⟨W1, hW1⟩ : ∃ W1, W0.drew.setRow g (tcs pre post (K.drop 1 ++ [v]) L.length).toArray = W1 := ⟨_, rfl⟩
      simp only [hW1] at hcp
      have hH1 : Holds W1 g t (tcs pre post (K.drop 1 ++ [v]) L.length).toArray := by rw [← hW1]; exact (hT.holds.drewN 1).row _
      have hg1 : W0.drew.grownBy W1 (some g) := by rw [← hW1]; exact grown_row _ _ _
      have hC1 : Chg (fun k => k = g) w W1 := (HC.out.drewN 1).trans (Chg.of_grown hg1 (fun k e => by cases e; rfl)) (fun _ _ h => h)
      have hX1 : Holds W1 s 49 #[.int .i64 a, .int .i64 b, .int .i64 c] := (HX.out.drewN 1).grown hg1 (fun e => hgs (by cases e; rfl))
      have hK1 : (K.drop 1 ++ [v]).length = 8 := by rw [List.length_append, List.length_drop, hT.eight]; rfl
      have hc1 : W1.cell? ⟨g, o + 24, none⟩ = some (.int .i64 8) := by rw [hH1.cell, List.getElem?_toArray, tcs_num hK1 hT.at', h8]; rfl
      have hf1 := hH1.soft (o + 24)
      have hH2 : Holds (W1.setCell ⟨g, o + 24, none⟩ (.int .i64 7)) g t (tcs pre post (K.drop 1 ++ [v]) ((7 : Nat) : Int)).toArray := by
        have := hH1.put (o + 24) (.int .i64 7)
        rwa [tcs_count hK1 hT.at'] at this
      have hp2 : ((K.drop 1 ++ [v]).set 7 (a, b, c)).take (7 + 1) = pushL L (a, b, c) := by
        have hd : (K.drop 1).length = 7 := by rw [List.length_drop, hT.eight]
        rw [List.set_append_right _ _ (by omega), hd, show 7 - 7 = 0 from rfl, List.set_cons_zero, List.take_of_length_le (by rw [List.length_append, hd]; simp)]
        unfold pushL
        rw [if_pos h8, hKL, List.drop_one]
      have HH2 := Lib.hid hH2
      have HX2 := Lib.hid (hX1.far (fun e => hgs e.symm) (.int .i64 7) (i := o + 24))
      have HC2 := Lib.hid (hC1.trans (Chg.set (S := fun k => k = g) W1 g (o + 24) (.int .i64 7) rfl) (fun _ _ h => h))
      have HP2 := Lib.hid hp2
      have ho := hT.at'
      have HK2 := Lib.hid hK1
      clear hW1 hH1 hg1 hC1 hX1 hH2 hp2 hv hK1 HC HX hT hKL
      go_upto_region 9 with (fail)
      refine region_turns (fun (w' : World) => True) (fun j => decide (8 ≤ j)) (by kernel_rfl) (trivial) (fun hS => ?_)
      refine Turns.take hS 0 _ rfl (by kernel_rfl) (by kernel_rfl) (by kernel_rfl) (by kernel_rfl) (fun _ _ _ h => h) (by rfl) (fun w' hS' => by (try dsimp only at hS'); go_split_ands; go_simp; (try with_reducible rfl)) ?_
      simp only [Act.put, List.getElem_toArray, List.getElem_cons_succ, List.getElem_cons_zero, List.setIfInBounds_toArray, List.set_cons_zero, List.set_cons_succ]
      refine Turns.take hS 1 _ rfl (by kernel_rfl) (by kernel_rfl) (by kernel_rfl) (by kernel_rfl) (fun _ _ _ h => h) (by rfl) (fun w' hS' => by (try dsimp only at hS'); go_split_ands; go_simp; (try with_reducible rfl)) ?_
      simp only [Act.put, List.getElem_toArray, List.getElem_cons_succ, List.getElem_cons_zero, List.setIfInBounds_toArray, List.set_cons_zero, List.set_cons_succ]
      refine Turns.take hS 2 _ rfl (by kernel_rfl) (by kernel_rfl) (by kernel_rfl) (by kernel_rfl) (fun _ _ _ h => h) (by rfl) (fun w' hS' => by (try dsimp only at hS'); go_split_ands; go_simp; (try with_reducible rfl)) ?_
      simp only [Act.put, List.getElem_toArray, List.getElem_cons_succ, List.getElem_cons_zero, List.setIfInBounds_toArray, List.set_cons_zero, List.set_cons_succ]
      refine Turns.take hS 3 _ rfl (by kernel_rfl) (by kernel_rfl) (by kernel_rfl) (by kernel_rfl) (fun _ _ _ h => h) (by rfl) (fun w' hS' => by (try dsimp only at hS'); go_split_ands; go_simp; (try with_reducible rfl)) ?_
      simp only [Act.put, List.getElem_toArray, List.getElem_cons_succ, List.getElem_cons_zero, List.setIfInBounds_toArray, List.set_cons_zero, List.set_cons_succ]
      refine Turns.take hS 4 _ rfl (by kernel_rfl) (by kernel_rfl) (by kernel_rfl) (by kernel_rfl) (fun _ _ _ h => h) (by rfl) (fun w' hS' => by (try dsimp only at hS'); go_split_ands; go_simp; (try with_reducible rfl)) ?_
      simp only [Act.put, List.getElem_toArray, List.getElem_cons_succ, List.getElem_cons_zero, List.setIfInBounds_toArray, List.set_cons_zero, List.set_cons_succ]
      refine Turns.take hS 5 _ rfl (by kernel_rfl) (by kernel_rfl) (by kernel_rfl) (by kernel_rfl) (fun _ _ _ h => h) (by rfl) (fun w' hS' => by (try dsimp only at hS'); go_split_ands; go_simp; (try with_reducible rfl)) ?_
      simp only [Act.put, List.getElem_toArray, List.getElem_cons_succ, List.getElem_cons_zero, List.setIfInBounds_toArray, List.set_cons_zero, List.set_cons_succ]
      refine Turns.take hS 6 _ rfl (by kernel_rfl) (by kernel_rfl) (by kernel_rfl) (by kernel_rfl) (fun _ _ _ h => h) (by rfl) (fun w' hS' => by (try dsimp only at hS'); go_split_ands; go_simp; (try with_reducible rfl)) ?_
      simp only [Act.put, List.getElem_toArray, List.getElem_cons_succ, List.getElem_cons_zero, List.setIfInBounds_toArray, List.set_cons_zero, List.set_cons_succ]
      refine Turns.take hS 7 _ rfl (by kernel_rfl) (by kernel_rfl) (by kernel_rfl) (by kernel_rfl) (fun _ _ _ h => h) (by rfl) (fun w' hS' => by (try dsimp only at hS'); go_split_ands; go_simp; (try with_reducible rfl)) ?_
      simp only [Act.put, List.getElem_toArray, List.getElem_cons_succ, List.getElem_cons_zero, List.setIfInBounds_toArray, List.set_cons_zero, List.set_cons_succ]
      refine Turns.rest (late_done (by kernel_rfl)) ?_
      refine any_tail 8 (by rfl) (by kernel_rfl) ?_
      simp only [List.drop_succ_cons, List.drop_zero]
      clear hS
      go_upto_region 11 with (fail)
      obtain ⟨W2, hW2⟩ : ∃ W2, W1.setCell ⟨g, o + 24, none⟩ (.int .i64 7) = W2 := ⟨_, rfl⟩
      obtain ⟨m, hm⟩ : ∃ m : Nat, 7 = m := ⟨_, rfl⟩
      rw [hW2] at HH2 HX2 HC2 ⊢
      rw [hm] at HH2
      have hp3 := HP2.out
      rw [hm] at hp3
      have HP2 := Lib.hid hp3
      have hm8 : m < 8 := by omega
      obtain ⟨K2, hK2⟩ : ∃ K2, K.drop 1 ++ [v] = K2 := ⟨_, rfl⟩
      rw [hK2] at HH2 HP2 HK2
      clear hW2 hm hcp hc1 hf1 h8 hp3 hK2 hct
    case' neg =>
      have hm8 : L.length < 8 := by omega
      have hp2 : (K.set L.length (a, b, c)).take (L.length + 1) = pushL L (a, b, c) := by
        unfold pushL
        rw [if_neg h8, List.take_succ_eq_append_getElem (by rw [List.length_set, hT.eight]; omega), List.take_set_of_le (Nat.le_refl _), hT.is]
        simp
      have HH2 := Lib.hid hT.holds
      have HX2 := HX
      have HC2 := HC
      have HP2 := Lib.hid hp2
      have ho := hT.at'
      have HK2 := Lib.hid hT.eight
      obtain ⟨m, hm⟩ : ∃ m : Nat, L.length = m := ⟨_, rfl⟩
      rw [hm] at HH2 HP2 hm8 hct
      have h8' : ((m : Int) == 8) = false := by simp; omega
      obtain ⟨K2, hK2⟩ : ∃ K2, K = K2 := ⟨_, rfl⟩
      rw [hK2] at HH2 HP2 HK2
      clear hp2 hT HX HC h8 hK2
      have HM := Lib.hid hm
      clear hm
      go_upto_region 11 with (fail)
      obtain ⟨W2, hW2⟩ : ∃ W2, W0 = W2 := ⟨_, rfl⟩
      rw [hW2] at HH2 HX2 HC2 ⊢
      clear hW2 h8' hct HM
    all_goals
      have h0 := HX2.out.cell 0
      have h1 := HX2.out.cell 1
      have h2 := HX2.out.cell 2
      have hct : W2.cell? ⟨g, o + 24, none⟩ = some (.int .i64 (m : Int)) := by rw [HH2.out.cell, List.getElem?_toArray, tcs_num HK2.out ho]
      have hm0 : (m : Int) < 8 := by omega
      have em : IntKind.i64.wrap (m : Int) = (m : Int) := IntWalk.i64_in _ (by omega)
      have em1 : IntKind.i64.wrap ((m : Int) + 1) = (m : Int) + 1 := IntWalk.i64_in _ (by omega)
      have hd2 := HH2.out.drewN 1
      obtain ⟨W3, hW3⟩ : ∃ W3, W2.drew.setRow g (splice (tcs pre post K2 (m : Int)) (o + m * 3) [.int .i64 a, .int .i64 b, .int .i64 c]).toArray = W3 := ⟨_, rfl⟩
      have hH3 : Holds W3 g t (tcs pre post (K2.set m (a, b, c)) (m : Int)).toArray := by
        have := hd2.row (splice (tcs pre post K2 (m : Int)) (o + m * 3) [.int .i64 a, .int .i64 b, .int .i64 c]).toArray
        rw [← tcs_put HK2.out ho hm8, ← hW3]
        exact this
      have hC3 : Chg (fun k => k = g) w W3 := by
        rw [← hW3]
        exact (HC2.out.drewN 1).trans (Chg.of_grown (grown_row _ g _) (fun k e => by cases e; rfl)) (fun _ _ h => h)
      have hK3 : (K2.set m (a, b, c)).length = 8 := by rw [List.length_set]; exact HK2.out
      have hct3 : W3.cell? ⟨g, o + 24, none⟩ = some (.int .i64 (m : Int)) := by rw [hH3.cell, List.getElem?_toArray, tcs_num hK3 ho]
      have hf3 := hH3.soft (o + 24)
      have hl : (pushL L (a, b, c)).length = m + 1 := by rw [← HP2.out, List.length_take, hK3]; omega
      have hend : Added g o t pre post L (a, b, c) w (.returned (.int .i64 0)) (W3.setCell ⟨g, o + 24, none⟩ (.int .i64 ((m : Int) + 1))) := by
        refine ⟨rfl, ⟨K2.set m (a, b, c), ho, hK3, by omega, by rw [hl]; exact HP2.out, ?_⟩, hC3.trans (Chg.set (S := fun k => k = g) W3 g (o + 24) _ rfl) (fun _ _ h => h)⟩
        have := hH3.put (o + 24) (.int .i64 ((m : Int) + 1))
        rw [tcs_count hK3 ho] at this
        rw [hl]
        exact this
      have hfit : o + m * 3 + 3 ≤ (tcs pre post K2 (m : Int)).length := by rw [tcs_len HK2.out ho]; omega
      have HF := Lib.hid hfit
      have HD2 := Lib.hid hd2
      have HE := Lib.hid hend
      have HW := Lib.hid hW3
      clear HH2 HX2 HC2 HP2 HK2 hd2 hH3 hC3 hK3 hl hend hW3 hfit hle ho
      refine region_turns (fun (w' : World) => w'.cell? ⟨g, o + 24, none⟩ = some (.int .i64 (m : Int)) ∧ w'.cell? ⟨s, 0, none⟩ = some (.int .i64 a) ∧ w'.cell? ⟨s, 1, none⟩ = some (.int .i64 b) ∧ w'.cell? ⟨s, 2, none⟩ = some (.int .i64 c)) (fun j => decide (9 ≤ j)) (by kernel_rfl) (⟨hct, h0, h1, h2⟩) (fun hS => ?_)
      refine Turns.take hS 0 _ rfl (by kernel_rfl) (by kernel_rfl) (by kernel_rfl) (by kernel_rfl) (fun _ _ _ h => h) (by rfl) (fun w' hS' => by (try dsimp only at hS'); go_split_ands; go_simp; (try with_reducible rfl)) ?_
      simp only [Act.put, List.getElem_toArray, List.getElem_cons_succ, List.getElem_cons_zero, List.setIfInBounds_toArray, List.set_cons_zero, List.set_cons_succ]
      refine Turns.take hS 1 _ rfl (by kernel_rfl) (by kernel_rfl) (by kernel_rfl) (by kernel_rfl) (fun _ _ _ h => h) (by rfl) (fun w' hS' => by (try dsimp only at hS'); go_split_ands; go_simp; (try with_reducible rfl)) ?_
      simp only [Act.put, List.getElem_toArray, List.getElem_cons_succ, List.getElem_cons_zero, List.setIfInBounds_toArray, List.set_cons_zero, List.set_cons_succ]
      refine Turns.take hS 2 _ rfl (by kernel_rfl) (by kernel_rfl) (by kernel_rfl) (by kernel_rfl) (fun _ _ _ h => h) (by rfl) (fun w' hS' => by (try dsimp only at hS'); go_split_ands; go_simp; (try with_reducible rfl)) ?_
      simp only [Act.put, List.getElem_toArray, List.getElem_cons_succ, List.getElem_cons_zero, List.setIfInBounds_toArray, List.set_cons_zero, List.set_cons_succ]
      refine Turns.take hS 3 _ rfl (by kernel_rfl) (by kernel_rfl) (by kernel_rfl) (by kernel_rfl) (fun _ _ _ h => h) (by rfl) (fun w' hS' => by (try dsimp only at hS'); go_split_ands; go_simp; (try with_reducible rfl)) ?_
      simp only [Act.put, List.getElem_toArray, List.getElem_cons_succ, List.getElem_cons_zero, List.setIfInBounds_toArray, List.set_cons_zero, List.set_cons_succ]
      refine Turns.take hS 4 _ rfl (by kernel_rfl) (by kernel_rfl) (by kernel_rfl) (by kernel_rfl) (fun _ _ _ h => h) (by rfl) (fun w' hS' => by (try dsimp only at hS'); go_split_ands; go_simp; (try with_reducible rfl)) ?_
      simp only [Act.put, List.getElem_toArray, List.getElem_cons_succ, List.getElem_cons_zero, List.setIfInBounds_toArray, List.set_cons_zero, List.set_cons_succ]
      refine Turns.take hS 5 _ rfl (by kernel_rfl) (by kernel_rfl) (by kernel_rfl) (by kernel_rfl) (fun _ _ _ h => h) (by rfl) (fun w' hS' => by (try dsimp only at hS'); go_split_ands; go_simp; (try with_reducible rfl)) ?_
      simp only [Act.put, List.getElem_toArray, List.getElem_cons_succ, List.getElem_cons_zero, List.setIfInBounds_toArray, List.set_cons_zero, List.set_cons_succ]
      refine Turns.take hS 6 _ rfl (by kernel_rfl) (by kernel_rfl) (by kernel_rfl) (by kernel_rfl) (fun _ _ _ h => h) (by rfl) (fun w' hS' => by (try dsimp only at hS'); go_split_ands; go_simp; (try with_reducible rfl)) ?_
      simp only [Act.put, List.getElem_toArray, List.getElem_cons_succ, List.getElem_cons_zero, List.setIfInBounds_toArray, List.set_cons_zero, List.set_cons_succ]
      refine Turns.take hS 7 _ rfl (by kernel_rfl) (by kernel_rfl) (by kernel_rfl) (by kernel_rfl) (fun _ _ _ h => h) (by rfl) (fun w' hS' => by (try dsimp only at hS'); go_split_ands; go_simp; (try with_reducible rfl)) ?_
      simp only [Act.put, List.getElem_toArray, List.getElem_cons_succ, List.getElem_cons_zero, List.setIfInBounds_toArray, List.set_cons_zero, List.set_cons_succ]
      refine Turns.take hS 8 _ rfl (by kernel_rfl) (by kernel_rfl) (by kernel_rfl) (by kernel_rfl) (fun _ _ _ h => h) (by rfl) (fun w' hS' => by (try dsimp only at hS'); go_split_ands; go_simp; (try with_reducible rfl)) ?_
      simp only [Act.put, List.getElem_toArray, List.getElem_cons_succ, List.getElem_cons_zero, List.setIfInBounds_toArray, List.set_cons_zero, List.set_cons_succ]
      refine Turns.rest (late_done (by kernel_rfl)) ?_
      refine any_tail 9 (by rfl) (by kernel_rfl) ?_
      simp only [List.drop_succ_cons, List.drop_zero]
      clear hS
      refine wpList_store_at rfl 49 (.tmp 54) (.tmp 51) rfl g (o + m * 3) [.int .i64 a, .int .i64 b, .int .i64 c] rfl rfl t _ HD2.out (by kernel_rfl) HF.out (by simp [Value.oneCell']) ?_
      rw [HW.out]
      clear HW HF HD2 hct h0 h1 h2
      go_wp2
      go_ret
      exact HE.out
end Go.Proofs.YtgmeakcfiaopcaaGreat

/- Ranges over functions: what an iterator over a block of its own keeps; structs loaded and stored whole within such a walk. Nothing here speaks of one program. -/
namespace Go.Proofs.YtgmeakcfiaopcaaGreat
open Go.RowKit Go.Shelf
set_option linter.unusedVariables false

/-- Cells of blocks from n on lie as they lay. -/
def Kept (n : Nat) (W W' : World) : Prop := W.heap.size ≤ W'.heap.size ∧ ∀ k cs t fr, n ≤ k → W.heap[k]? = some (Obj.cells cs t fr) → W'.heap[k]? = W.heap[k]?
theorem kept_t {n : Nat} {A B C : World} (h : Kept n A B) (k : Kept n B C) : Kept n A C :=
  ⟨Nat.le_trans h.1 k.1, fun i cs t fr hi hc => (k.2 i cs t fr hi ((h.2 i cs t fr hi hc).trans hc)).trans (h.2 i cs t fr hi hc)⟩
theorem kept_r (n : Nat) (W : World) : Kept n W W := ⟨Nat.le_refl _, fun _ _ _ _ _ _ => rfl⟩
theorem kept_b {n m : Nat} (hn : n ≤ m) (W : World) (l : Nat) (o o' : Obj) (hl : m ≤ l) (h : W.heap[l]? = some o) (hc : o.isCells = false) (_ : o.isWalk = false) : Kept n W (W.putObj l o') := by
  have hg := grownBy_putObj' W l o'
  refine ⟨hg.size, fun k cs t fr hk hcs => hg.block k (Array.getElem?_eq_some_iff.1 hcs).1 (fun e => ?_)⟩
  cases e
  rw [h] at hcs
  simp only [Option.some.injEq] at hcs
  subst hcs
  cases hc
theorem kept_chg {n : Nat} {S : Nat → Prop} {w w' : World} (hc : Chg S w w') (hS : ∀ k, S k → k < n) : Kept n w w' := ⟨hc.size, fun k cs t fr hk hcs => hc.block k (Array.getElem?_eq_some_iff.1 hcs).1 (fun e => by have := hS k e; omega)⟩
theorem kept_below {n : Nat} {w w' : World} (h : Below w.heap.size w w') : Kept n w w' := ⟨h.size, fun k cs t fr _ hcs => h.block k (Array.getElem?_eq_some_iff.1 hcs).1⟩
theorem Holds.kept {n : Nat} {W W' : World} {g : Nat} {t : TypeId} {cs : Array Value} (h : Holds W g t cs) (hk : Kept n W W') (hn : n ≤ g) : Holds W' g t cs := (hk.2 g _ _ _ hn h).trans h
theorem grown_below {w w' : World} (hb : Below w.heap.size w w') : w.grownBy w' none := ⟨hb.os, hb.tape, hb.output, hb.size, fun k hk _ => hb.block k hk⟩

section
variable {F : Fence} {n : Nat} {P : Program}
theorem wpListIn_load_at {ops : Array Oper} {rest : List Oper} {o : Oper} {a : Act} {w : World} {Q : Exit → Act → World → Prop} (hro : F.round = none) (hgd : o.guard = none) (ty : TypeId) (x : Operand) (ho : o.op = .load ty x)
    (g off : Nat) (hx : a.eval x = .pointer (some ⟨g, off, none⟩)) (t : TypeId) (cur : Array Value) (cs : List Value) (d : TypeDesc) (hg : Holds w g t cur) (hcs : ∀ j v, cs[j]? = some v → cur[off + j]? = some v)
    (hu : P.underlying ty = some d) (hd : (match d with | .struct _ | .array _ _ => true | _ => false) = true) (hi : (P.info? ty).map (·.size) = some cs.length)
    (h : wpListIn F n P ops Q rest (a.put o.dst (.agg cs.toArray)) w) : wpListIn F n P ops Q (o :: rest) a w :=
  wpListIn_plain hgd fun _ hK => by
    refine ⟨fun f hf => by simp [Oper.about, ho] at hf, ?_⟩
    rw [hro]
    show o.uponIn F n P a _ Q ((execOp a.eval o).run P w)
    unfold execOp
    simp only [ho, hx, Instr.loadAt, Instr.sureAddr, Sem.run_bind, Sem.run_pure, Result.andThen_ok, run_loadVar_at w g off t ty cur cs d hg hcs hu hd hi]
    exact hK _ _ h
/-- A struct that was loaded whole, stored whole into a new block. -/
theorem wpListIn_store_new {ops : Array Oper} {rest : List Oper} {o : Oper} {a : Act} {w : World} {Q : Exit → Act → World → Prop} (hro : F.round = none) (hgd : o.guard = none) (ty : TypeId) (x y : Operand) (ho : o.op = .store ty x y)
    (g : Nat) (cells : List Value) (hx : a.eval x = .pointer (some ⟨g, 0, none⟩)) (hy : a.eval y = .agg cells.toArray)
    (t : TypeId) (cur : List Value) (hg : Holds w g t cur.toArray) (hi : (P.info? ty).map (·.size) = some cells.length)
    (hfit : cells.length = cur.length) (h1 : ∀ v ∈ cells, v.oneCell' = true) (W1 : World) (hW1 : w.setRow g cells.toArray = W1)
    (h : wpListIn F n P ops Q rest (a.put o.dst undef) W1) : wpListIn F n P ops Q (o :: rest) a w :=
  wpListIn_plain hgd fun _ hK => by
    refine ⟨fun f hf => by simp [Oper.about, ho] at hf, ?_⟩
    rw [hro]
    show o.uponIn F n P a _ Q ((execOp a.eval o).run P w)
    have hs := run_storeVar_at (P := P) w g 0 t ty cur cells hg hi (by omega) h1
    rw [splice_all _ _ hfit, hW1] at hs
    unfold execOp
    simp only [ho, hx, hy, Instr.storeAt, Instr.sureAddr, Sem.run_bind, Sem.run_pure, Result.andThen_ok, hs]
    exact hK _ _ h
end
end Go.Proofs.YtgmeakcfiaopcaaGreat

/- Package table: what All goes over. -/
namespace Go.Proofs.YtgmeakcfiaopcaaGreat
open Go.RowKit Go.Shelf
set_option linter.unusedVariables false
set_option linter.unusedSimpArgs false
attribute [local go_sem] Oper.semAt_some

/-- All: the table's pointer is boxed; the function value captures the box. -/
theorem all_any (w : World) (p : Option Addr) :
    Calls Tryz.prog 92 #[.pointer p] w fun e w' => e = .returned (.func (.func 100) #[] #[.pointer (some ⟨w.heap.size, 0, none⟩)]) ∧ w' = w.alloc (.cells #[.pointer p] 145) := by
  go_enter Tryz.func92, Tryz.ntmps92
  go_wp2
  go_ret
  exact ⟨rfl, rfl⟩
/-- A table, or a nil one. -/
def Src (w : World) (q : Option Addr) (L : List Ent) : Prop := (q = none ∧ L = []) ∨ ∃ g o t pre post, q = some ⟨g, o, none⟩ ∧ Tb w g o t pre post L
theorem Src.below {w w' : World} {q : Option Addr} {L : List Ent} (h : Src w q L) (hb : Below w.heap.size w w') : Src w' q L := by
  rcases h with h | ⟨g, o, t, pre, post, e, h⟩
  · exact .inl h
  · exact .inr ⟨g, o, t, pre, post, e, h.below hb⟩
theorem Src.le {w : World} {q : Option Addr} {L : List Ent} (h : Src w q L) : L.length ≤ 8 := by
  rcases h with ⟨_, rfl⟩ | ⟨g, o, t, pre, post, e, h⟩
  · exact Nat.zero_le _
  · exact h.le
theorem Src.nil (w : World) : Src w none [] := .inl ⟨rfl, rfl⟩
theorem Tb.src {w : World} {g o : Nat} {t : TypeId} {pre post : List Value} {L : List Ent} (h : Tb w g o t pre post L) : Src w (some ⟨g, o, none⟩) L := .inr ⟨g, o, t, pre, post, rfl, h⟩

/-- An entry as All tells it. -/
def entA (x : Ent) : Array Value := #[.agg #[.int .i64 x.1, .int .i64 x.2.1, .int .i64 x.2.2]]
theorem tcs_one (K : List Ent) (n : Int) : ∀ v ∈ trs K ++ [Value.int .i64 n], v.oneCell' = true := fun v hv => by
  rcases List.mem_append.1 hv with h | h
  · exact trs_one K v h
  · simp only [List.mem_singleton] at h
    subst h
    rfl
theorem tcs_load {pre post : List Value} {K : List Ent} {n : Int} {o : Nat} (hK : K.length = 8) (ho : pre.length = o) : ∀ j v, (trs K ++ [Value.int .i64 n])[j]? = some v → (tcs pre post K n).toArray[o + j]? = some v := fun j v hv => by
  have hj := (List.getElem?_eq_some_iff.1 hv).1
  unfold tcs
  rw [List.getElem?_toArray, ← ho, get_mid _ _ _ _ hj, hv]
set_option maxRecDepth 100000 in
set_option maxHeartbeats 2000000 in
theorem all1_stops (n : Nat) (hn : 1 ≤ n) (p n₀ : Nat) (q : Option Addr) (L : List Ent) (w : World) (h : Src w q L) (hp : w.cell? ⟨p, 0, none⟩ = some (.pointer q)) (hn₀ : n₀ ≤ w.heap.size) :
    SeqStopsK Fence.wide n Tryz.prog 100 #[.pointer (some ⟨p, 0, none⟩)] entA (Kept n₀) (fun ys => ys = L) (fun pre => pre <+: L) L.length w := fun l J Jx W hW hJ hJx hY h0 => by
  have hpw : p < w.heap.size := block_lt hp
  have hp1 : W.cell? ⟨p, 0, none⟩ = some (.pointer q) := (hW.cell (p := ⟨p, 0, none⟩) hpw).trans hp
  have hsz := hW.size
  have hS := h.below hW
  have H0 := Lib.hid h0
  have HY := Lib.hid hY
  have HJ := Lib.hid hJ
  clear hp hW h0 hY hJ h
  refine callsIn_of_wp Tryz.func100 rfl trivial ?_ rfl
  simp only [Tryz.ntmps100, List.size_toArray, List.length_cons, List.length_nil, Nat.reduceAdd, Nat.reduceSub, Array.replicate_succ, Array.replicate_zero, List.push_toArray, List.append_toArray, List.nil_append, List.cons_append]
  rcases hS with ⟨rfl, rfl⟩ | ⟨g, o, t, pre, post, rfl, K, hT⟩
  · gi_wp2
    refine bodyPost_ret (results_none rfl _ _ _) rfl ?_
    exact ⟨⟨_, rfl⟩, .inl ⟨_, rfl, H0.out⟩⟩
  · have hmid := tcs_mid (n := (L.length : Int)) hT.eight
    have hle := hT.le
    have hle2 : (L.length : Int) ≤ 8 := by omega
    have hal : Tryz.prog.arrayLen 83 = 8 := by kernel_rfl
    have hnn : (0 : Int) ≤ (L.length : Int) := Int.natCast_nonneg _
    have HLD := Lib.hid (tcs_load (n := (L.length : Int)) (post := post) hT.eight hT.at')
    have HG := Lib.hid hT.holds
    have HM := Lib.hid (show (Tryz.prog.info? 85).map (·.size) = some (trs K ++ [Value.int .i64 (L.length : Int)]).length by rw [hmid]; kernel_rfl)
    have HM2 := Lib.hid (show (trs K ++ [Value.int .i64 (L.length : Int)]).length = zeroT.length by rw [hmid]; rfl)
    have HO := Lib.hid (tcs_one K (L.length : Int))
    obtain ⟨W1, hW1⟩ : ∃ W1, (W.alloc (.cells zeroT.toArray 85)).setRow W.heap.size (trs K ++ [Value.int .i64 (L.length : Int)]).toArray = W1 := ⟨_, rfl⟩
    have hb1 : Below W.heap.size W W1 := by
      rw [← hW1]
      exact (below_alloc W _).grown (grown_row _ W.heap.size _) (by simp) (fun k e => by cases e; exact Nat.le_refl _)
    have hh1 : Holds W1 W.heap.size 85 (trs K ++ [Value.int .i64 (L.length : Int)]).toArray := by
      rw [← hW1]
      exact (Holds.new W 85 zeroT.toArray).row _
    have hT1 : T0 W1 W.heap.size 0 85 [] [] K L := ⟨rfl, hT.eight, hT.le, hT.is, by unfold tcs; rw [List.nil_append, List.append_nil]; exact hh1⟩
    have hc1 := hT1.count
    rw [Nat.zero_add] at hc1
    have hj1 : J [] W1 := HJ.out _ _ _ none H0.out (grown_below hb1) (fun r e => by cases e)
    have HE1 := Lib.hid hT1
    have HJ1 := Lib.hid hj1
    have HW1 := Lib.hid hW1
    have hbW : n₀ ≤ W.heap.size := Nat.le_trans hn₀ hsz
    obtain ⟨cells, hcells⟩ : ∃ cells, trs K ++ [Value.int .i64 (L.length : Int)] = cells := ⟨_, rfl⟩
    rw [hcells] at HLD HM HM2 HO HW1
    clear hT hmid hcells hh1 hT1 hb1 hj1 hW1 H0
    gi_wp2_with (first
      | (refine wpListIn_load_at rfl rfl 85 (.tmp 9) rfl g o rfl t _ cells _ HG.out HLD.out Tryz.underlying85 rfl HM.out ?_)
      | (refine wpListIn_store_new rfl rfl 85 (.tmp 3) (.tmp 10) rfl W.heap.size cells rfl rfl 85 zeroT (Holds.new W _ _) HM.out HM2.out HO.out W1 HW1.out ?_))
    clear HLD HG HM HM2 HO HW1 hc1 hal hle2 hnn
    gi_loopw [16] (fun i wr => ∃ k : Nat, k ≤ L.length ∧ i = .int .i64 k ∧ J (L.take k) wr ∧ T0 wr W.heap.size 0 85 [] [] K L) (fun i _ => L.length - (intOf i).toNat)
    case atStart => exact ⟨0, Nat.zero_le _, rfl, by rw [List.take_zero]; exact HJ1.out, HE1.out⟩
    case round =>
      obtain ⟨k, hk, rfl, hJs, hes⟩ := hrel
      by_cases hlt : k < L.length
      · obtain ⟨x, hx⟩ : ∃ x, L[k]? = some x := ⟨_, List.getElem?_eq_getElem hlt⟩
        obtain ⟨q0, q1, q2⟩ := hes.at hx
        rw [Nat.zero_add] at q0 q1 q2
        have hnext : L.take (k + 1) = L.take k ++ [x] := by
          rw [List.take_succ_eq_append_getElem hlt]
          rw [List.getElem?_eq_getElem hlt] at hx
          cases hx
          rfl
        obtain ⟨a, b, c⟩ := x
        dsimp only at q0 q1 q2
        have hJ2 := HJ.out _ _ _ none hJs (World.grownBy_alloc wr (.cells #[.int .i64 a, .int .i64 b, .int .i64 c] 49) none) (fun r e => by cases e)
        have HE2 := Lib.hid (hes.chg (Chg.of_below (fun _ => False) (below_alloc wr (.cells #[.int .i64 a, .int .i64 b, .int .i64 c] 49))) id)
        have HX := Lib.hid hnext
        obtain ⟨fn, tmps, assign, body, hy, hR⟩ := HY.out (L.take k) (a, b, c) _ hJ2 (by rw [List.length_take]; omega)
        have HR := Lib.hid hR
        clear hx hnext hJs hes hJ2 hR
        change (Instr.yield l #[Value.agg #[Value.int .i64 a, Value.int .i64 b, Value.int .i64 c]]).run Tryz.prog _ = _ at hy
        gi_wp2
        refine HR.out.mono ?_
        rintro e W3 (⟨rfl, hJ3, hk3⟩ | ⟨rfl, hJx3⟩)
        · have HJ3 := Lib.hid hJ3
          have HE3 := Lib.hid (show T0 W3 W.heap.size 0 85 [] [] K L from { HE2.out with holds := HE2.out.holds.kept hk3 hbW })
          clear hJ3 hk3
          gi_wp2
          go_roundw
          case rel => exact ⟨k + 1, by omega, by go_num, by rw [HX.out]; exact HJ3.out, HE3.out⟩
          case measure => simp [intOf]; omega
        · have HJ3 := Lib.hid hJx3
          clear hJx3
          gi_wp2
          refine bodyPost_ret (results_none rfl _ _ _) rfl ?_
          exact ⟨⟨_, rfl⟩, .inr ⟨_, List.take_prefix (k + 1) L, by rw [HX.out]; exact HJ3.out⟩⟩
      · have hkl : k = L.length := by omega
        have hall : L.take k = L := List.take_of_length_le (by omega)
        rw [hall] at hJs
        have HJs := Lib.hid hJs
        clear hkl hall hJs hes
        gi_wp2
        go_end0
        exact ⟨⟨_, rfl⟩, .inl ⟨_, rfl, HJs.out⟩⟩
end Go.Proofs.YtgmeakcfiaopcaaGreat

/- Ranges over functions within a loop: the marks that they leave, one a round; what a walk's own blocks leave as it lay. Nothing here speaks of one program. -/
namespace Go.Proofs.YtgmeakcfiaopcaaGreat
set_option linter.unusedVariables false
open Go.RowKit

/-- Row: a block that is no cells, if there is one. -/
def NoCells (w : World) (row : Option Nat) : Prop := ∀ r, row = some r → ∃ o : Obj, w.heap[r]? = some o ∧ o.isCells = false
theorem Holds.turned {w w' : World} {g : Nat} {t : TypeId} {cs : Array Value} {row : Option Nat} (h : Holds w g t cs) (hg : w.grownBy w' row) (hr : NoCells w row) : Holds w' g t cs :=
  h.grown hg (fun e => by
    obtain ⟨o, ho, hc⟩ := hr _ e.symm
    rw [show w.heap[g]? = _ from h] at ho
    cases ho
    cases hc)
theorem others_of_chg {w w' : World} {S : Nat → Prop} (hc : Chg S w w') (hS : ∀ k, S k → ∃ cs t fr, w.heap[k]? = some (.cells cs t fr)) : KeepsOthers w w' :=
  ⟨hc.size, fun k o hk ho => (hc.block k (Array.getElem?_eq_some_iff.1 hk).1 (fun e => by
    obtain ⟨cs, t, fr, h⟩ := hS k e
    rw [h] at hk
    cases hk
    cases ho)).trans hk⟩
theorem others_of_below {w w' : World} (h : Below w.heap.size w w') : KeepsOthers w w' := ⟨h.size, fun k o hk _ => (h.block k (Array.getElem?_eq_some_iff.1 hk).1).trans hk⟩

/-- The marks of ranges that are over. -/
def mark (D : Nat) : Deferred := { target := .collected D, args := #[] }
def Marks (w : World) (lo hi : Nat) (Ds : List Nat) : Prop := Ds.Nodup ∧ ∀ D ∈ Ds, lo ≤ D ∧ D < hi ∧ w.heap[D]? = some (.deferred (some []))
theorem Marks.nil (w : World) (lo hi : Nat) : Marks w lo hi [] := ⟨List.nodup_nil, fun D h => by cases h⟩
theorem Marks.turned {w w' : World} {lo hi : Nat} {Ds : List Nat} {row : Option Nat} (h : Marks w lo hi Ds) (hg : w.grownBy w' row) (hr : ∀ r, row = some r → hi ≤ r) : Marks w' lo hi Ds :=
  ⟨h.1, fun D hD => ⟨(h.2 D hD).1, (h.2 D hD).2.1, (hg.block D (Array.getElem?_eq_some_iff.1 (h.2 D hD).2.2).1 (fun e => by have := hr _ e.symm; have := (h.2 D hD).2.1; omega)).trans (h.2 D hD).2.2⟩⟩
theorem Marks.others {w w' : World} {lo hi : Nat} {Ds : List Nat} (h : Marks w lo hi Ds) (hk : KeepsOthers w w') : Marks w' lo hi Ds :=
  ⟨h.1, fun D hD => ⟨(h.2 D hD).1, (h.2 D hD).2.1, hk.same D _ (h.2 D hD).2.2 rfl⟩⟩
theorem Marks.up {w : World} {lo hi hi' : Nat} {Ds : List Nat} (h : Marks w lo hi Ds) (hh : hi ≤ hi') : Marks w lo hi' Ds := ⟨h.1, fun D hD => ⟨(h.2 D hD).1, by have := (h.2 D hD).2.1; omega, (h.2 D hD).2.2⟩⟩
theorem Marks.cons {w : World} {lo hi D hi' : Nat} {Ds : List Nat} (h : Marks w lo hi Ds) (hlo : lo ≤ hi) (hD : hi ≤ D) (hd : w.heap[D]? = some (.deferred (some []))) (hh : D < hi') : Marks w lo hi' (D :: Ds) := by
  refine ⟨List.nodup_cons.2 ⟨fun hm => by have := (h.2 D hm).2.1; omega, h.1⟩, fun E hE => ?_⟩
  rcases List.mem_cons.1 hE with rfl | hE
  · exact ⟨by omega, hh, hd⟩
  · exact ⟨(h.2 E hE).1, by have := (h.2 E hE).2.1; omega, (h.2 E hE).2.2⟩
section
variable {P : Program} {F : Fence} {n : Nat} {fn : Func} {tmps : Array Value} {R : Ending → World → Prop} {I : World → Prop} {lo hi : Nat}
theorem leaves_marks (hI : ∀ W D, lo ≤ D → I W → W.heap[D]? = some (.deferred (some [])) → I (W.putObj D (.deferred none))) (hend : ∀ W, I W → LeavesInM F n P fn tmps R [] .returning W) :
    ∀ (Ds : List Nat) (W : World), Marks W lo hi Ds → I W → LeavesInM F n P fn tmps R (Ds.map mark) .returning W
  | [], W, _, h => hend W h
  | D :: Ds, W, hm, h => by
    obtain ⟨h1, _, h3⟩ := hm.2 D (List.mem_cons_self ..)
    refine ⟨by simp, .inl ⟨D, _, rfl, run_takeDeferred h3, leaves_marks hI hend Ds _ ?_ (hI W D h1 h h3)⟩⟩
    have hnd := List.nodup_cons.1 hm.1
    refine ⟨hnd.2, fun E hE => ?_⟩
    obtain ⟨e1, e2, e3⟩ := hm.2 E (List.mem_cons_of_mem _ hE)
    exact ⟨e1, e2, (World.putObj_heap_other (by intro e; subst e; exact hnd.1 hE)).trans e3⟩
end
end Go.Proofs.YtgmeakcfiaopcaaGreat

/- While a block's cells are written. Nothing here speaks of one program. -/
namespace Go.Proofs.YtgmeakcfiaopcaaGreat
open Go.RowKit
/-- While a block's cells are written: nothing else is. -/
structure Wp (w0 : World) (g : Nat) (t : TypeId) (cs : Array Value) (w : World) : Prop where
  node : Holds w g t cs
  chg : Chg (fun k => k = g) w0 w
section
variable {w0 w w' : World} {g : Nat} {t : TypeId} {cs : Array Value}
theorem Wp.start (h : Holds w0 g t cs) : Wp w0 g t cs w0 := ⟨h, Chg.refl _ _⟩
theorem Wp.put (h : Wp w0 g t cs w) (i : Nat) (u : Value) : Wp w0 g t (cs.setIfInBounds i u) (w.setCell ⟨g, i, none⟩ u) :=
  ⟨h.node.put i u, h.chg.trans (Chg.set (S := fun k => k = g) w g i u rfl) (fun _ _ e => e)⟩
theorem Wp.row (h : Wp w0 g t cs w) (l : List Value) : Wp w0 g t l.toArray (w.setRow g l.toArray) :=
  ⟨h.node.row l.toArray, h.chg.trans (Chg.of_grown (grown_row w g l.toArray) (S := fun k => k = g) (fun k e => by cases e; rfl)) (fun _ _ e => e)⟩
theorem Wp.drewN (h : Wp w0 g t cs w) (n : Nat) : Wp w0 g t cs (w.drewN n) := ⟨h.node.drewN n, h.chg.drewN n⟩
end
theorem Wp.to {w0 w : World} {g : Nat} {t : TypeId} {cs cs' : Array Value} (h : Wp w0 g t cs w) (e : cs = cs') : Wp w0 g t cs' w := e ▸ h
theorem one_ints3 (a b c : Int) : ∀ v ∈ ([.int .i64 a, .int .i64 b, .int .i64 c] : List Value), v.oneCell' = true := by
  intro v hv
  simp only [List.mem_cons, List.not_mem_nil, or_false] at hv
  rcases hv with rfl | rfl | rfl <;> rfl
end Go.Proofs.YtgmeakcfiaopcaaGreat

/- A struct of many cells: loaded from cells that are known one by one, laid into a block of its own. Nothing here speaks of one program. (The walk's own step at an alloc and a store of it costs the kernel twice as much for each cell.) -/
namespace Go.Proofs.YtgmeakcfiaopcaaGreat
open Go.RowKit

section
variable {P : Program}
theorem run_loadVar_cells (w : World) (g o : Nat) (ty : TypeId) (cs : List Value) (d : TypeDesc) (hcs : ∀ j v, cs[j]? = some v → w.cell? ⟨g, o + j, none⟩ = some v)
    (hu : P.underlying ty = some d) (hd : (match d with | .struct _ | .array _ _ => true | _ => false) = true) (hi : (P.info? ty).map (·.size) = some cs.length) :
    (loadVar ty ⟨g, o, none⟩).run P w = .ok (.agg cs.toArray) w := by
  have hl : (loadCells ⟨g, o, none⟩ cs.length).run P w = .ok cs.toArray w :=
    run_loadCells_list (P := P) w ⟨g, o, none⟩ cs (fun j v hv => by
      have hadd : (⟨g, o, none⟩ : Addr).add j = ⟨g, o + j, none⟩ := by unfold Addr.add; split <;> simp_all
      rw [hadd]
      exact hcs j v hv)
  cases hq : P.info? ty with
  | none => simp [hq] at hi
  | some i =>
    have hs : i.size = cs.length := by simpa [hq] using hi
    have hagg : (isAgg ty).run P w = .ok true w := by
      unfold isAgg
      rw [Sem.run_bind, run_underlying hu w]
      cases d <;> simp_all
    simp [loadVar, Sem.run_bind, hagg, sizeOf, typeInfo, hq, hs, hl]
theorem wpList_load_cells {ops : Array Oper} {rest : List Oper} {o : Oper} {a : Act} {w : World} {Q : Exit → Act → World → Prop} (hgd : o.guard = none) (ty : TypeId) (x : Operand) (ho : o.op = .load ty x)
    (g off : Nat) (hx : a.eval x = .pointer (some ⟨g, off, none⟩)) (cs : List Value) (d : TypeDesc) (hcs : ∀ j v, cs[j]? = some v → w.cell? ⟨g, off + j, none⟩ = some v)
    (hu : P.underlying ty = some d) (hd : (match d with | .struct _ | .array _ _ => true | _ => false) = true) (hi : (P.info? ty).map (·.size) = some cs.length)
    (h : wpList P ops Q rest (a.put o.dst (.agg cs.toArray)) w) : wpList P ops Q (o :: rest) a w :=
  wpList_plain hgd fun _ hK => by
    unfold Oper.wp execOp
    simp only [ho, hx, Instr.loadAt, Instr.sureAddr, Sem.run_bind, Sem.run_pure, Result.andThen_ok, run_loadVar_cells w g off ty cs d hcs hu hd hi]
    exact hK _ _ h
end
/-- A block made, and laid whole. -/
theorem elem_new (w : World) (t : TypeId) (zs vs : List Value) : Below w.heap.size w ((w.alloc (.cells zs.toArray t)).setRow w.heap.size vs.toArray) ∧ Holds ((w.alloc (.cells zs.toArray t)).setRow w.heap.size vs.toArray) w.heap.size t vs.toArray :=
  ⟨Below.chg (below_alloc _ _) (Chg.of_grown (grown_row _ w.heap.size vs.toArray) (S := fun k => k = w.heap.size) (fun k e => by cases e; rfl)) (by simp) (fun k e => by omega), (Holds.new _ _ _).row _⟩
/-- A part of a list of cells. -/
theorem part_get (pre mid post : List Value) (j : Nat) (v : Value) (h : mid[j]? = some v) : (pre ++ (mid ++ post)).toArray[pre.length + j]? = some v := by
  have hj : j < mid.length := (List.getElem?_eq_some_iff.1 h).1
  rw [List.getElem?_toArray, get_mid _ _ _ _ hj]
  exact h
end Go.Proofs.YtgmeakcfiaopcaaGreat


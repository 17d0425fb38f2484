/- Rows of three integers each, as cells; cells loaded and stored at a place within a block. Nothing here speaks of one program. -/
import Derived.Test.YtjifnnloncanpaaChg
namespace Go.Proofs.Ytjifnnloncanpaa
open Go.RowKit

abbrev Ent := Int × Int × Int
/-- The cells of entries, one behind the other. -/
def trs (L : List Ent) : List Value := L.flatMap fun e => [.int .i64 e.1, .int .i64 e.2.1, .int .i64 e.2.2]
theorem trs_nil : trs [] = [] := rfl
theorem trs_cons (e : Ent) (L : List Ent) : trs (e :: L) = .int .i64 e.1 :: .int .i64 e.2.1 :: .int .i64 e.2.2 :: trs L := rfl
theorem trs_append (L M : List Ent) : trs (L ++ M) = trs L ++ trs M := by simp [trs]
theorem trs_len : ∀ L : List Ent, (trs L).length = L.length * 3
  | [] => rfl
  | e :: L => by rw [trs_cons]; simp [trs_len L]; omega
theorem trs_take : ∀ (L : List Ent) (i : Nat), (trs L).take (i * 3) = trs (L.take i)
  | [], _ => by simp [trs_nil]
  | _ :: _, 0 => by simp [trs_nil]
  | e :: L, i + 1 => by rw [List.take_succ_cons, trs_cons, trs_cons, ← trs_take L i, show (i + 1) * 3 = i * 3 + 1 + 1 + 1 by omega, List.take_succ_cons, List.take_succ_cons, List.take_succ_cons]
theorem trs_drop : ∀ (L : List Ent) (i : Nat), (trs L).drop (i * 3) = trs (L.drop i)
  | [], _ => by simp [trs_nil]
  | _ :: _, 0 => by simp
  | e :: L, i + 1 => by rw [List.drop_succ_cons, trs_cons, ← trs_drop L i, show (i + 1) * 3 = i * 3 + 1 + 1 + 1 by omega, List.drop_succ_cons, List.drop_succ_cons, List.drop_succ_cons]
theorem trs_get : ∀ (L : List Ent) (i : Nat) (e : Ent), L[i]? = some e → (trs L)[i * 3]? = some (.int .i64 e.1) ∧ (trs L)[i * 3 + 1]? = some (.int .i64 e.2.1) ∧ (trs L)[i * 3 + 2]? = some (.int .i64 e.2.2)
  | x :: L, 0, e, h => by
    simp only [List.getElem?_cons_zero, Option.some.injEq] at h
    subst h
    exact ⟨rfl, rfl, rfl⟩
  | x :: L, i + 1, e, h => by
    have := trs_get L i e (by simpa using h)
    rw [trs_cons, show (i + 1) * 3 = i * 3 + 1 + 1 + 1 by omega]
    simpa using this
theorem trs_set : ∀ (L : List Ent) (i : Nat) (e : Ent), i < L.length → trs (L.set i e) = (((trs L).set (i * 3) (.int .i64 e.1)).set (i * 3 + 1) (.int .i64 e.2.1)).set (i * 3 + 2) (.int .i64 e.2.2)
  | x :: L, 0, e, _ => rfl
  | x :: L, i + 1, e, h => by
    rw [List.set_cons_succ, trs_cons, trs_cons, trs_set L i e (by simpa using h), show (i + 1) * 3 = i * 3 + 1 + 1 + 1 by omega]
    rfl
theorem trs_one (L : List Ent) : ∀ v ∈ trs L, v.oneCell' = true := by
  intro v hv
  simp [trs] at hv
  obtain ⟨a, b, c, _, rfl | rfl | rfl⟩ := hv <;> rfl

theorem own_keep' {w w' : World} {B : Nat} {e : TypeId} {v : Value} {m k : Nat} {xs : List Value} (h : w.ownsRow B e k v m xs) (hb : Below w.heap.size w w') : w'.ownsRow B e k v m xs :=
  own_chg h (Chg.of_below (fun _ => False) hb) (fun _ _ h => h)
section
variable {P : Program}
/-- A struct's cells, loaded from a place within a block. -/
theorem run_loadVar_at (w : World) (g o : Nat) (t ty : TypeId) (cur : Array Value) (cs : List Value) (d : TypeDesc) (hg : Holds w g t cur) (hcs : ∀ j v, cs[j]? = some v → cur[o + j]? = some v)
    (hu : P.underlying ty = some d) (hd : (match d with | .struct _ | .array _ _ => true | _ => false) = true) (hi : (P.info? ty).map (·.size) = some cs.length) :
    (loadVar ty ⟨g, o, none⟩).run P w = .ok (.agg cs.toArray) w := by
  have hl : (loadCells ⟨g, o, none⟩ cs.length).run P w = .ok cs.toArray w :=
    run_loadCells_list (P := P) w ⟨g, o, none⟩ cs (fun j v hv => by
      have hadd : (⟨g, o, none⟩ : Addr).add j = ⟨g, o + j, none⟩ := by unfold Addr.add; split <;> simp_all
      rw [hadd, hg.cell]
      exact hcs j v hv)
  cases hq : P.info? ty with
  | none => simp [hq] at hi
  | some i =>
    have hs : i.size = cs.length := by simpa [hq] using hi
    have hagg : (isAgg ty).run P w = .ok true w := by
      unfold isAgg
      rw [Sem.run_bind, run_underlying hu w]
      cases d <;> simp_all
    simp [loadVar, Sem.run_bind, hagg, sizeOf, typeInfo, hq, hs, hl]
theorem wpList_load_at {ops : Array Oper} {rest : List Oper} {o : Oper} {a : Act} {w : World} {Q : Exit → Act → World → Prop} (hgd : o.guard = none) (ty : TypeId) (x : Operand) (ho : o.op = .load ty x)
    (g off : Nat) (hx : a.eval x = .pointer (some ⟨g, off, none⟩)) (t : TypeId) (cur : Array Value) (cs : List Value) (d : TypeDesc) (hg : Holds w g t cur) (hcs : ∀ j v, cs[j]? = some v → cur[off + j]? = some v)
    (hu : P.underlying ty = some d) (hd : (match d with | .struct _ | .array _ _ => true | _ => false) = true) (hi : (P.info? ty).map (·.size) = some cs.length)
    (h : wpList P ops Q rest (a.put o.dst (.agg cs.toArray)) w) : wpList P ops Q (o :: rest) a w :=
  wpList_plain hgd fun _ hK => by
    unfold Oper.wp execOp
    simp only [ho, hx, Instr.loadAt, Instr.sureAddr, Sem.run_bind, Sem.run_pure, Result.andThen_ok, run_loadVar_at w g off t ty cur cs d hg hcs hu hd hi]
    exact hK _ _ h
/-- A struct's cells, stored at a place within a block. -/
theorem run_storeVar_at (w : World) (g o : Nat) (t ty : TypeId) (cur cells : List Value) (hg : Holds w g t cur.toArray) (hi : (P.info? ty).map (·.size) = some cells.length)
    (ho : o + cells.length ≤ cur.length) (h1 : ∀ v ∈ cells, v.oneCell' = true) :
    (storeVar ty ⟨g, o, none⟩ (.agg cells.toArray)).run P w = .ok () (w.setRow g (splice cur o cells).toArray) := by
  have := run_storeCells_at P g o t cells 0 cur.toArray w hg (by simpa using ho) h1
  cases hq : P.info? ty with
  | none => simp [hq] at hi
  | some i =>
    have hs : cells.length = i.size := by simp [hq] at hi; omega
    simp [storeVar, sizeOf, typeInfo, hq, Value.cells, hs, this, splice]
theorem wpList_store_at {ops : Array Oper} {rest : List Oper} {o : Oper} {a : Act} {w : World} {Q : Exit → Act → World → Prop} (hgd : o.guard = none) (ty : TypeId) (x y : Operand) (ho : o.op = .store ty x y)
    (g off : Nat) (cells : List Value) (hx : a.eval x = .pointer (some ⟨g, off, none⟩)) (hy : a.eval y = .agg cells.toArray)
    (t : TypeId) (cur : List Value) (hg : Holds w g t cur.toArray) (hi : (P.info? ty).map (·.size) = some cells.length)
    (hfit : off + cells.length ≤ cur.length) (h1 : ∀ v ∈ cells, v.oneCell' = true)
    (h : wpList P ops Q rest (a.put o.dst undef) (w.setRow g (splice cur off cells).toArray)) : wpList P ops Q (o :: rest) a w :=
  wpList_plain hgd fun _ hK => by
    unfold Oper.wp execOp
    simp only [ho, hx, hy, Instr.storeAt, Instr.sureAddr, Sem.run_bind, Sem.run_pure, Result.andThen_ok, run_storeVar_at w g off t ty cur cells hg hi hfit h1]
    exact hK _ _ h
/-- As one step of a region that draws its order. -/
theorem wp_store_at {o : Oper} {a : Act} {w : World} {K : Act → World → Prop} {Q : Exit → Act → World → Prop} (ty : TypeId) (x y : Operand) (ho : o.op = .store ty x y)
    (g off : Nat) (cells : List Value) (hx : a.eval x = .pointer (some ⟨g, off, none⟩)) (hy : a.eval y = .agg cells.toArray)
    (t : TypeId) (cur : List Value) (hg : Holds w g t cur.toArray) (hi : (P.info? ty).map (·.size) = some cells.length)
    (hfit : off + cells.length ≤ cur.length) (h1 : ∀ v ∈ cells, v.oneCell' = true)
    (h : K (a.put o.dst undef) (w.setRow g (splice cur off cells).toArray)) : Oper.wp P o a w K Q := by
  unfold Oper.wp execOp
  simp only [ho, hx, hy, Instr.storeAt, Instr.sureAddr, Sem.run_bind, Sem.run_pure, Result.andThen_ok, run_storeVar_at w g off t ty cur cells hg hi hfit h1]
  exact h
end

/-- What a call answers whose first result lies in a cell of its own. -/
theorem results_row_tmp {P : Program} {fn : Func} {p u : Tmp} {ty : TypeId} (h : fn.results = #[.cell p ty, .tmp u]) (tmps : Array Value) (w : World) (g : Nat) (t : TypeId) (cs : List Value) (d : TypeDesc) (v : Value)
    (hp : tmps.getD p undef = .pointer (some ⟨g, 0, none⟩)) (hg : Holds w g t cs.toArray) (hu : P.underlying ty = some d) (hd : (match d with | .struct _ | .array _ _ => true | _ => false) = true) (hi : (P.info? ty).map (·.size) = some cs.length)
    (hv : tmps.getD u undef = v) : (results fn tmps).run P w = .ok (.tuple #[.agg cs.toArray, v]) w := by
  have hp' : tmps[p]?.getD undef = .pointer (some ⟨g, 0, none⟩) := by simpa using hp
  have hv' : tmps[u]?.getD undef = v := by simpa using hv
  have hl := run_loadVar_at (P := P) w g 0 t ty cs.toArray cs d hg (fun j v hv => by simpa using hv) hu hd hi
  simp [results, h, hp', hv', asAddr, hl]

theorem splice_all {α : Type} (cur new : List α) (h : new.length = cur.length) : splice cur 0 new = new := by
  unfold splice
  rw [List.take_zero, List.nil_append, Nat.zero_add, List.drop_eq_nil_of_le (by omega), List.append_nil]
theorem splice_mid {α : Type} (pre mid post new : List α) (i : Nat) (h : i + new.length ≤ mid.length) : splice (pre ++ (mid ++ post)) (pre.length + i) new = pre ++ (splice mid i new ++ post) := by
  unfold splice
  rw [List.take_append, List.take_of_length_le (by omega), show pre.length + i - pre.length = i by omega, List.take_append_of_le_length (by omega), List.append_assoc, List.append_assoc, List.append_assoc]
  congr 2
  rw [List.drop_append, List.drop_eq_nil_of_le (by omega), List.nil_append, show pre.length + i + new.length - pre.length = i + new.length by omega, List.drop_append_of_le_length (by omega)]
theorem set_mid {α : Type} (pre mid post : List α) (i : Nat) (x : α) (h : i < mid.length) : (pre ++ (mid ++ post)).set (pre.length + i) x = pre ++ (mid.set i x ++ post) := by
  rw [List.set_append_right _ _ (by omega), show pre.length + i - pre.length = i by omega, List.set_append_left _ _ h]
theorem get_mid {α : Type} (pre mid post : List α) (i : Nat) (h : i < mid.length) : (pre ++ (mid ++ post))[pre.length + i]? = mid[i]? := by
  rw [List.getElem?_append_right (by omega), show pre.length + i - pre.length = i by omega, List.getElem?_append_left h]

/-- An empty table's cells. -/
def zeroT : List Value := trs (List.replicate 8 (0, 0, 0)) ++ [Value.int .i64 0]
theorem zeroT_one : ∀ v ∈ zeroT, v.oneCell' = true := by decide +kernel
/-- A table's cells (eight places, and how many there are), behind the cells pre and ahead of the cells post. -/
def tcs (pre post : List Value) (K : List Ent) (n : Int) : List Value := pre ++ ((trs K ++ [Value.int .i64 n]) ++ post)
section
variable {pre post : List Value} {K : List Ent} {n : Int} {o : Nat}
theorem tcs_len (hK : K.length = 8) (ho : pre.length = o) : (tcs pre post K n).length = o + 25 + post.length := by
  unfold tcs
  rw [List.length_append, List.length_append, List.length_append, trs_len, hK, ho, List.length_singleton]
  omega
theorem tcs_mid (hK : K.length = 8) : (trs K ++ [Value.int .i64 n]).length = 25 := by rw [List.length_append, trs_len, hK]; rfl
theorem tcs_num (hK : K.length = 8) (ho : pre.length = o) : (tcs pre post K n)[o + 24]? = some (.int .i64 n) := by
  have hm := tcs_mid (n := n) hK
  unfold tcs
  rw [← ho, get_mid _ _ _ _ (by omega), List.getElem?_append_right (by rw [trs_len]; omega), trs_len, hK]
  rfl
theorem tcs_at (hK : K.length = 8) (ho : pre.length = o) {i : Nat} (hi : i < 24) : (tcs pre post K n)[o + i]? = (trs K)[i]? := by
  have hm := tcs_mid (n := n) hK
  unfold tcs
  rw [← ho, get_mid _ _ _ _ (by omega), List.getElem?_append_left (by rw [trs_len]; omega)]
theorem tcs_count (hK : K.length = 8) (ho : pre.length = o) (m : Int) : (tcs pre post K n).toArray.setIfInBounds (o + 24) (.int .i64 m) = (tcs pre post K m).toArray := by
  have hm := tcs_mid (n := n) hK
  unfold tcs
  rw [← ho, List.setIfInBounds_toArray, set_mid _ _ _ _ _ (by omega), List.set_append_right _ _ (by rw [trs_len]; omega), trs_len, hK]
  rfl
theorem tcs_put (hK : K.length = 8) (ho : pre.length = o) {i : Nat} (hi : i < 8) (e : Ent) : splice (tcs pre post K n) (o + i * 3) [.int .i64 e.1, .int .i64 e.2.1, .int .i64 e.2.2] = tcs pre post (K.set i e) n := by
  have hm := tcs_mid (n := n) hK
  unfold tcs
  rw [← ho, splice_mid _ _ _ _ _ (by rw [hm]; simp; omega)]
  congr 2
  have h1 : K.set i e = K.take i ++ e :: K.drop (i + 1) := by rw [List.set_eq_take_append_cons_drop, if_pos (by omega)]
  have hl : i * 3 ≤ (trs K).length := by rw [trs_len, hK]; omega
  rw [h1, trs_append, trs_cons, ← trs_take, ← trs_drop]
  unfold splice
  rw [List.take_append_of_le_length hl, List.drop_append_of_le_length (by rw [trs_len, hK]; simp; omega), show (i + 1) * 3 = i * 3 + 3 by omega]
  simp
theorem tcs_copy (hK : K.length = 8) (ho : pre.length = o) (x : Ent) (hx : K.drop 7 = [x]) : splice (tcs pre post K n) o (trs (K.drop 1)) = tcs pre post (K.drop 1 ++ [x]) n := by
  have hm := tcs_mid (n := n) hK
  have hs := splice_mid pre (trs K ++ [Value.int .i64 n]) post (trs (K.drop 1)) 0 (by rw [hm, trs_len, List.length_drop]; omega)
  rw [Nat.add_zero, ho] at hs
  unfold tcs
  rw [hs]
  congr 2
  unfold splice
  rw [List.take_zero, List.nil_append, trs_append, List.append_assoc]
  congr 1
  have hl : (trs (K.drop 1)).length = 7 * 3 := by rw [trs_len, List.length_drop, hK]
  rw [hl, Nat.zero_add, List.drop_append_of_le_length (by rw [trs_len, hK]; omega), trs_drop, hx]
theorem tcs_zero (hK : K.length = 8) (ho : pre.length = o) (K' : List Ent) (hK' : K'.length = 8) (m : Int) : splice (tcs pre post K n) o (trs K' ++ [Value.int .i64 m]) = tcs pre post K' m := by
  have hm := tcs_mid (n := n) hK
  have hm' := tcs_mid (n := m) hK'
  have hs := splice_mid pre (trs K ++ [Value.int .i64 n]) post (trs K' ++ [Value.int .i64 m]) 0 (by omega)
  rw [Nat.add_zero, ho, splice_all _ _ (by omega)] at hs
  exact hs
end
end Go.Proofs.Ytjifnnloncanpaa

/- The document's log: Tag, Take. -/
import Derived.Test.YtjifnnloncanpaaEvG
import Derived.Test.YtjifnnloncanpaaEvR
import Derived.Test.YtjifnnloncanpaaPs
import Derived.Lib.SlFresh
namespace Go.Proofs.Ytjifnnloncanpaa
open Go.RowKit
set_option linter.unusedVariables false
set_option linter.unusedSimpArgs false

/-- A slice of elements of one cell each, read; it lies in no block older than B. -/
structure VRow (B : Nat) (w : World) (A : Option Addr) (n c : Nat) (vs : List Value) : Prop where
  len : vs.length = n
  cap_le : n ≤ c
  max : c ≤ maxLen
  nil : A = none → c = 0
  one : ∀ v ∈ vs, v.oneCell' = true
  cell : 0 < n → ∃ b off, A = some ⟨b, off, none⟩ ∧ B ≤ b ∧ b < w.heap.size ∧ ∀ j v, vs[j]? = some v → w.cell? ⟨b, off + j, none⟩ = some v
section
variable {w w' : World} {B : Nat} {A : Option Addr} {n c : Nat} {vs : List Value}
theorem vrow_none (B : Nat) (w : World) : VRow B w none 0 0 [] := ⟨rfl, Nat.le_refl _, Nat.zero_le _, fun _ => rfl, fun v h => (by cases h), fun h => absurd h (Nat.lt_irrefl _)⟩
theorem VRow.chg {S : Nat → Prop} (h : VRow B w A n c vs) (hc : Chg S w w') (hS : ∀ k, B ≤ k → ¬ S k) : VRow B w' A n c vs :=
  ⟨h.len, h.cap_le, h.max, h.nil, h.one, fun hn => by
    obtain ⟨b, off, e, hB, hl, hh⟩ := h.cell hn
    exact ⟨b, off, e, hB, Nat.lt_of_lt_of_le hl hc.size, fun j v hv => (hc.cell hl (hS b hB)).trans (hh j v hv)⟩⟩
theorem VRow.below (h : VRow B w A n c vs) (hb : Below w.heap.size w w') : VRow B w' A n c vs := h.chg (Chg.of_below (fun _ => False) hb) (fun _ _ => id)
theorem VRow.of_own {e : TypeId} (h : w.ownsRow B e 1 (.slice A n c) n vs) (h1 : ∀ v ∈ vs, v.oneCell' = true) : VRow B w A n c vs := by
  have hl := h.1
  rw [Nat.mul_one] at hl
  rcases own_open h with ⟨e1, hn, _⟩ | ⟨g, cap, cur, e1, hB, hH, hnc, hcm, hcl, hct⟩
  · simp only [Value.slice.injEq] at e1
    obtain ⟨rfl, rfl, rfl⟩ := e1
    exact ⟨by omega, Nat.le_refl _, Nat.zero_le _, fun _ => rfl, h1, fun h => absurd h (Nat.lt_irrefl _)⟩
  · simp only [Value.slice.injEq, true_and] at e1
    obtain ⟨rfl, rfl⟩ := e1
    refine ⟨by omega, hnc, hcm, (fun h => by cases h), h1, fun hn => ⟨g, 0, rfl, hB, hH.lt, fun j v hv => ?_⟩⟩
    have hj := (List.getElem?_eq_some_iff.1 hv).1
    rw [Nat.zero_add, hH.cell, List.getElem?_toArray, ← hv, ← hct, List.getElem?_take, if_pos (by omega)]
theorem VRow.up {B' : Nat} (h : VRow B w A n c vs) (hB : B' ≤ B) : VRow B' w A n c vs :=
  ⟨h.len, h.cap_le, h.max, h.nil, h.one, fun hn => by
    obtain ⟨b, off, e, hb, hl, hh⟩ := h.cell hn
    exact ⟨b, off, e, Nat.le_trans hB hb, hl, hh⟩⟩
theorem VRow.cut (h : VRow B w A n c vs) {m : Nat} (hm : m ≤ n) : VRow B w (if c = m then A else A.map (·.add m)) (n - m) (c - m) (vs.drop m) := by
  have hc := h.cap_le
  have hx := h.max
  have ha : ∀ b off, (⟨b, off, none⟩ : Addr).add m = ⟨b, off + m, none⟩ := fun b off => by unfold Addr.add; split <;> simp_all
  refine ⟨by rw [List.length_drop, h.len], by omega, by omega, fun e => ?_, fun v hv => h.one v (List.mem_of_mem_drop hv), fun hn => ?_⟩
  · split at e
    · have := h.nil e
      omega
    · have := h.nil (by cases A <;> simp_all)
      omega
  · obtain ⟨b, off, rfl, hB, hb, hcell⟩ := h.cell (by omega)
    rw [if_neg (by omega)]
    refine ⟨b, off + m, by rw [← ha]; rfl, hB, hb, fun j v hv => ?_⟩
    rw [List.getElem?_drop] at hv
    rw [Nat.add_assoc]
    exact hcell _ _ hv
end
section
variable {P : Program} (w : World)
theorem run_append_v (B B2 : Nat) (t ty e : TypeId) (i : TypeInfo) (z : Value) (bytes : Nat) (ht : P.underlying t = some (.slice e)) (hi : P.info? e = some i) (hz : i.zero = some z)
    (hsize : i.size = 1) (hby : i.bytes = bytes) (hzs : z.cells.size = 1) (v : Value) (n : Nat) (xs : List Value) (hown : w.ownsRow B e 1 v n xs)
    (A : Option Addr) (m c : Nat) (vs : List Value) (hr : VRow B2 w A m c vs) (h63 : n + m ≤ maxLen) (hbytes : (n + m) * bytes ≤ 140737488355328) (hbase : B ≤ w.heap.size) :
    ∃ A' c' w', (Builtin.append_ #[t, t] ty #[v, .slice A m c]).run P w = .ok (.slice A' (n + m) c') w' ∧ w'.ownsRow B e 1 (.slice A' (n + m) c') (n + m) (xs ++ vs) ∧ w.grownBy w' v.ownBlock := by
  rcases A with _ | ad
  · have hc := hr.nil rfl
    have hcl := hr.cap_le
    obtain rfl : m = 0 := by omega
    have hn : vs = [] := List.eq_nil_of_length_eq_zero hr.len
    subst hn
    obtain ⟨A', c', rfl⟩ := own_shape hown
    subst hc
    exact ⟨A', c', w, run_append_owned_none (P := P) w B t ty e i 1 ht hi _ n xs hown, by simpa using hown, (⟨rfl, rfl, rfl, Nat.le_refl _, fun _ _ _ => rfl⟩ : w.grownBy w _)⟩
  · obtain ⟨v', w', h1, h2, h3, _, _⟩ := run_append_own_at (P := P) w B t ty e i z 1 bytes ht hi hz hsize hby hzs (by omega) v n xs hown ad m c vs (by rw [Nat.mul_one]; exact hr.len)
      (fun j u hu => by
        have hj : j < m := by
          have := (List.getElem?_eq_some_iff.1 hu).1
          have := hr.len
          omega
        obtain ⟨b, off, e1, _, _, hc⟩ := hr.cell (by omega)
        simp only [Option.some.injEq] at e1
        subst e1
        have hp : (⟨b, off, none⟩ : Addr).add j = ⟨b, off + j, none⟩ := by unfold Addr.add; split <;> simp_all
        rw [hp]
        exact hc j u hu) hr.one h63 hbytes hbase
    obtain ⟨A', c', rfl⟩ := own_shape h2
    exact ⟨A', c', w', h1, h2, h3⟩
/-- In a walk. -/
theorem wpList_append_v {ops : Array Oper} {rest : List Oper} {o : Oper} {a : Act} {Q : Exit → Act → World → Prop} (hgd : o.guard = none) (s x : Operand) (t : TypeId)
    (ho : o.op = .call { callee := .builtin .append, args := #[s, x], argTypes := #[t, t] })
    (B B2 : Nat) (e : TypeId) (i : TypeInfo) (z : Value) (bytes : Nat) (ht : P.underlying t = some (.slice e)) (hi : P.info? e = some i) (hz : i.zero = some z)
    (hsize : i.size = 1) (hby : i.bytes = bytes) (hzs : z.cells.size = 1) (v : Value) (n : Nat) (xs : List Value) (hs : a.eval s = v) (hown : w.ownsRow B e 1 v n xs)
    (A : Option Addr) (m c : Nat) (vs : List Value) (hx : a.eval x = .slice A m c) (hr : VRow B2 w A m c vs) (h63 : n + m ≤ maxLen) (hbytes : (n + m) * bytes ≤ 140737488355328) (hbase : B ≤ w.heap.size)
    (h : ∀ A' c' w', w'.ownsRow B e 1 (.slice A' (n + m) c') (n + m) (xs ++ vs) → Below B w w' → wpList P ops Q rest (a.put o.dst (.slice A' (n + m) c')) w') :
    wpList P ops Q (o :: rest) a w := by
  refine wpList_plain hgd fun K hK => ?_
  obtain ⟨A', c', w', hrun, h2, h3⟩ := run_append_v (P := P) w B B2 t o.type e i z bytes ht hi hz hsize hby hzs v n xs hown A m c vs hr h63 hbytes hbase
  unfold Oper.wp execOp
  simp only [ho, resolve, invoke, builtin, Sem.run_bind, Sem.run_pure, Result.andThen_ok, List.map_toArray, List.map_cons, List.map_nil, hs, hx, hrun]
  exact hK _ _ (h A' c' w' h2 ((Below.refl _ _).grown h3 hbase (fun g hg => (hown.lt g hg).1)))
end
theorem vrow_laid (w : World) (B : Nat) (e : TypeId) (v : Value) (h1 : v.oneCell' = true) (hB : B ≤ w.heap.size) : VRow B (w.alloc (.cells #[v] e)) (some ⟨w.heap.size, 0, none⟩) 1 1 [v] :=
  ⟨rfl, Nat.le_refl _, by simp [maxLen], (fun h => by cases h), fun u hu => by rw [List.mem_singleton.1 hu]; exact h1, fun _ => ⟨_, 0, rfl, hB, by simp, fun j u hu => by
    have := Holds.new w e #[v]
    rw [Nat.zero_add, this.cell, List.getElem?_toArray]
    exact hu⟩⟩

def idsOf (L : List Ev) : List Value := L.map fun x => .int .i64 x.id
def labsOf (L : List Ev) : List Value := L.map fun x => .string x.lab
theorem ids_one (L : List Ev) : ∀ v ∈ idsOf L, v.oneCell' = true := by
  intro v hv
  simp [idsOf] at hv
  obtain ⟨a, _, rfl⟩ := hv
  rfl
theorem labs_one (L : List Ev) : ∀ v ∈ labsOf L, v.oneCell' = true := by
  intro v hv
  simp [labsOf] at hv
  obtain ⟨a, _, rfl⟩ := hv
  rfl
/-- The document's log at block d; its rows lie in no block older than B. -/
def Dl (w : World) (B d : Nat) (L : List Ev) (last : Int) : Prop := ∃ A c A2 c2, Holds w d 30 #[.slice A L.length c, .slice A2 L.length c2, .int .i64 last] ∧ VRow B w A L.length c (idsOf L) ∧ VRow B w A2 L.length c2 (labsOf L)
section
variable {w w' : World} {B d : Nat} {L : List Ev} {last : Int}
theorem Dl.lt (h : Dl w B d L last) : d < w.heap.size := by
  obtain ⟨A, c, A2, c2, hh, _⟩ := h
  exact hh.lt
theorem Dl.chg {S : Nat → Prop} (h : Dl w B d L last) (hc : Chg S w w') (hg : ¬ S d) (hS : ∀ k, B ≤ k → ¬ S k) : Dl w' B d L last := by
  obtain ⟨A, c, A2, c2, hh, h1, h2⟩ := h
  exact ⟨A, c, A2, c2, hh.chg hc hg, h1.chg hc hS, h2.chg hc hS⟩
theorem Dl.below (h : Dl w B d L last) (hb : Below w.heap.size w w') : Dl w' B d L last := h.chg (Chg.of_below (fun _ => False) hb) id (fun _ _ => id)
theorem Dl.new (w : World) : Dl (w.alloc (.cells #[.slice none 0 0, .slice none 0 0, .int .i64 0] 30)) (w.heap.size + 1) w.heap.size [] 0 := ⟨none, 0, none, 0, Holds.new w _ _, vrow_none _ _, vrow_none _ _⟩
end

theorem dtag_bad (x : Ev) (w : World) (d : Nat) (hg : goodL x.lab = false) (hs : x.lab.size ≤ 1000) : Calls Try.prog 13 #[.pointer (some ⟨d, 0, none⟩), .string x.lab] w fun e w' => e = .returned (.tuple #[.int .i64 0, .int .i64 1]) ∧ w' = w := by
  have hgd := rgood_any x.lab w hs
  rw [hg] at hgd
  go_enter Try.func13, Try.ntmps13
  go_wp2_with (go_at_call 15; refine hgd.mono ?_; rintro e wx ⟨rfl, hwx⟩; subst wx)
  go_ret2
  exact ⟨rfl, rfl⟩
theorem dtag_full (x : Ev) (w : World) (B d : Nat) (L : List Ev) (last : Int) (h : Dl w B d L last) (hg : goodL x.lab = true) (hs : x.lab.size ≤ 1000) (hf : L.length = 16) : Calls Try.prog 13 #[.pointer (some ⟨d, 0, none⟩), .string x.lab] w fun e w' => e = .returned (.tuple #[.int .i64 0, .int .i64 6]) ∧ w' = w := by
  have hgd := rgood_any x.lab w hs
  rw [hg] at hgd
  obtain ⟨A, c, A2, c2, hh, _⟩ := h
  rw [hf] at hh
  have c0 := hh.cell 0
  clear hh hf
  go_enter Try.func13, Try.ntmps13
  go_wp2_with (go_at_call 15; refine hgd.mono ?_; rintro e wx ⟨rfl, hwx⟩; subst wx)
  go_ret2
  exact ⟨rfl, rfl⟩
theorem int_info : (Try.prog.info? 3).map (fun i => (i.zero, i.size, i.bytes)) = some (some (.int .i64 0), 1, 8) := by kernel_rfl
theorem str_info : (Try.prog.info? 9).map (fun i => (i.zero, i.size, i.bytes)) = some (some (.string ⟨#[]⟩), 1, 16) := by kernel_rfl
end Go.Proofs.Ytjifnnloncanpaa

/- The document's Read. -/
import Derived.Test.YtbdlpkkgfhknkaaFrmI
import Derived.Test.YtbdlpkkgfhknkaaFrmZ
import Derived.Test.YtbdlpkkgfhknkaaOctR
import Derived.StillTailTactics
import Derived.Laws.Tables
import Derived.Laws.CopyOwn
import Derived.Deep.Cut
namespace Go.Proofs.Ytbdlpkkgfhknkaa
open Go.RowKit
set_option linter.unusedSimpArgs false

/-- A frame of a kind whose fields are all 0, with all fields that there are. -/
def Pl.blank (k : Int) : Pl := ⟨k, 0, 0, 0, 0, 0, 0, 0, 0, 0, 0, 0, 0, 0⟩
theorem fits0 : Fits 0 := ⟨by decide, by decide⟩
theorem f160 : F16 0 := ⟨by decide, by decide⟩
theorem blank_wf {k : Int} (h1 : 0 ≤ k) (h2 : k ≤ 255) : (Pl.blank k).wf := by
  refine ⟨⟨by show _ ≤ k; omega, by show k ≤ _; omega⟩, ?_, ?_, ?_, ?_, ?_, ?_, ?_, ?_, ?_, ?_, ?_, ?_, ?_⟩ <;> first | exact fits0 | exact f160
theorem blank_fr {k : Int} (h1 : 1 ≤ k) (h2 : k ≤ 6) : (Pl.blank k).fr = some (Fr.of k []) := by
  rcases kind_cases h1 h2 with rfl | rfl | rfl | rfl | rfl | rfl <;> rfl
theorem blank_none {k : Int} (h : ¬ (1 ≤ k ∧ k ≤ 6)) : (Pl.blank k).fr = none := by
  unfold Pl.fr Pl.blank
  simp only
  repeat' rw [if_neg (by omega)]
abbrev Z14 : Array Value := #[.int .i64 0, .int .i64 0, .int .i64 0, .int .i64 0, .int .u16 0, .int .u16 0, .int .i64 0, .int .i64 0, .int .i64 0, .int .i64 0, .int .i64 0, .int .i64 0, .int .i64 0, .int .i64 0]
theorem z14_one : Z14.all (·.oneCell') = true := by simp [Value.oneCell']
/-- What the document reads in bytes. -/
def readVal (d : Option Fr × Int) : Value := .tuple #[(match d.1 with | some f => f.plain | none => .zero).val, .int .i64 d.2]
/-- The memory while the document reads: the answer's variable, the kind's one. -/
structure Docs (w : World) (k : Int) (wr : World) : Prop where
  below : Below w.heap.size w wr
  ans : Holds wr w.heap.size 24 #[.int .i64 0, .int .i64 0, .int .i64 0, .int .i64 0, .int .u16 0, .int .u16 0, .int .i64 0, .int .i64 0, .int .i64 0, .int .i64 0, .int .i64 0, .int .i64 0, .int .i64 0, .int .i64 0]
  kind : Holds wr (w.heap.size + 1) 24 #[.int .i64 k, .int .i64 0, .int .i64 0, .int .i64 0, .int .u16 0, .int .u16 0, .int .i64 0, .int .i64 0, .int .i64 0, .int .i64 0, .int .i64 0, .int .i64 0, .int .i64 0, .int .i64 0]
theorem results_cell_tmp {P : Program} {fn : Func} {p q : Tmp} {ty : TypeId} (h : fn.results = #[.cell p ty, .tmp q]) (tmps : Array Value) (w : World) (g : Nat) (t : TypeId) (cs : Array Value) (fr : Nat × Nat) (d : TypeDesc)
    (hp : tmps.getD p undef = .pointer (some ⟨g, 0, none⟩)) (hg : w.heap[g]? = some (.cells cs t fr))
    (hu : P.underlying ty = some d) (hd : (match d with | .struct _ | .array _ _ => true | _ => false) = true) (hi : (P.info? ty).map (·.size) = some cs.size) :
    (results fn tmps).run P w = .ok (.tuple #[.agg cs, tmps.getD q undef]) w := by
  have hp' : tmps[p]?.getD undef = .pointer (some ⟨g, 0, none⟩) := by simpa using hp
  simp [results, h, hp', asAddr, run_loadVar_row w g t ty cs fr d hg hu hd hi]
theorem plain_size2 : (Try.prog.info? 24).map (·.size) = some 14 := by kernel_rfl
/-- An operation that yields a value and turns nothing. -/
theorem list_yield {P : Program} {ops : Array Oper} {rest : List Oper} {o : Oper} {a : Act} {w : World} {Q : Exit → Act → World → Prop} (v : Value) (hgd : o.guard = none) (hrun : (execOp a.eval o).run P w = .ok (.value v) w)
    (h : wpList P ops Q rest (a.put o.dst v) w) : wpList P ops Q (o :: rest) a w := by
  refine wpList_plain hgd fun K hK => ?_
  unfold Oper.wp
  rw [hrun]
  exact hK _ _ h
/-- The end of a way. -/
theorem read_end {w w' : World} {a : Act} (p : Pl) (n : Int) {v : Value} (hv : v = .tuple #[p.val, .int .i64 n]) (h1 : a.tmps.getD 2 undef = .pointer (some ⟨w.heap.size, 0, none⟩)) (h2 : a.tmps.getD 3 undef = .int .i64 n) (h3 : a.defers = [])
    (hh : Holds w' w.heap.size 24 p.val.cells) (hb : Below w.heap.size w w') : bodyPost Try.prog Try.f16 (Told v w) .ret a w' := by
  refine bodyPost_ret (results_cell_tmp rfl _ _ w.heap.size 24 _ (0, 0) _ h1 hh Try.underlying24 rfl plain_size2) h3 ⟨?_, hb⟩
  rw [h2, hv]
  rfl
set_option maxRecDepth 100000 in
theorem rread_long (A : Option Addr) (n c : Nat) (w : World) (h : 64 < n) : Calls Try.prog 16 #[.slice A n c] w (Told (readVal (none, 5)) w) := by
  go_enter Try.func16, Try.ntmps16
  go_wp2
  exact read_end .zero _ rfl rfl rfl rfl (Holds.new _ _ _) ((Below.refl _ _).alloc (Nat.le_refl _) _)
set_option maxRecDepth 100000 in
theorem rread_none (A : Option Addr) (c : Nat) (w : World) : Calls Try.prog 16 #[.slice A 0 c] w (Told (readVal (none, 3)) w) := by
  go_enter Try.func16, Try.ntmps16
  go_wp2
  exact read_end .zero _ rfl rfl rfl rfl (Holds.new _ _ _) ((Below.refl _ _).alloc (Nat.le_refl _) _)
section
variable {w wr w' : World} {k : Int}
theorem Docs.alloc (h : Docs w k wr) (o : Obj) : Docs w k (wr.alloc o) := ⟨h.below.alloc h.below.size o, h.ans.alloc o, h.kind.alloc o⟩
theorem Docs.on (h : Docs w k wr) (hb : Below wr.heap.size wr w') : Docs w k w' := ⟨h.below.trans (hb.mono h.below.size), h.ans.below hb h.ans.lt, h.kind.below hb h.kind.lt⟩
/-- The answer is written. -/
theorem Docs.put (h : Docs w k wr) (cs : Array Value) : Holds (wr.setRow w.heap.size cs) w.heap.size 24 cs ∧ Below w.heap.size w (wr.setRow w.heap.size cs) :=
  ⟨setRow_heap wr w.heap.size _ cs _ _ h.ans, below_setRow h.below (Nat.le_refl _) cs⟩
theorem Docs.start (w : World) (k : Int) : Docs w k ((w.alloc (.cells Z14 24)).alloc (.cells #[.int .i64 k, .int .i64 0, .int .i64 0, .int .i64 0, .int .u16 0, .int .u16 0, .int .i64 0, .int .i64 0, .int .i64 0, .int .i64 0, .int .i64 0, .int .i64 0, .int .i64 0, .int .i64 0] 24)) :=
  ⟨((Below.refl _ _).alloc (Nat.le_refl _) _).alloc (by simp) _, (Holds.new _ _ _).alloc _, by
    have := Holds.new (w.alloc (.cells Z14 24)) 24 #[.int .i64 k, .int .i64 0, .int .i64 0, .int .i64 0, .int .u16 0, .int .u16 0, .int .i64 0, .int .i64 0, .int .i64 0, .int .i64 0, .int .i64 0, .int .i64 0, .int .i64 0, .int .i64 0]
    rw [size_alloc] at this
    exact this⟩
theorem Docs.drewN (h : Docs w k wr) (n : Nat) : Docs w k (wr.drewN n) := h.on (below_drewN (Below.refl _ _) n)
end
set_option maxRecDepth 100000 in
theorem rread_no_kind (A : Option Addr) (n c : Nat) (k : Int) (zs : List Int) (w : World) (hr : IntRow w .u8 A n c (k :: zs)) (hn : n ≤ 64) (hk : ¬ (1 ≤ k ∧ k ≤ 6)) : Calls Try.prog 16 #[.slice A n c] w (Told (readVal (none, 3)) w) := by
  have hl := hr.len_eq
  have hn0 : 0 < n := by simp at hl; omega
  obtain ⟨b, off, rfl, hb, hc⟩ := hr.cell hn0
  have c0 := hc 0 hn0
  simp only [Nat.add_zero, List.getD_cons_zero] at c0
  obtain ⟨k1, k2⟩ := f8s hr.wf k (List.mem_cons_self ..)
  have hf := fun W => fields_none (Pl.blank k) W (blank_none hk)
  simp only [Pl.val, Pl.blank] at hf
  clear hc hr hl hk
  go_enter Try.func16, Try.ntmps16
  have c1 := World.cell?_alloc_lt w (.cells #[.int .i64 0, .int .i64 0, .int .i64 0, .int .i64 0, .int .u16 0, .int .u16 0, .int .i64 0, .int .i64 0, .int .i64 0, .int .i64 0, .int .i64 0, .int .i64 0, .int .i64 0, .int .i64 0] 24) ⟨b, off, none⟩ hb
  have hz := plain_size2
  have HZ := Lib.hid hz
  clear hz
  go_wp2_with (go_at_call 28; refine (hf _).mono ?_; rintro e w1 ⟨rfl, hb1⟩; have hd := (Docs.start w k).on hb1; have HD := Lib.hid hd; clear hd)
  refine wp_loop_rounds 1 ?_
  rw [rounds_succ]
  go_upto_region 13 with (fail)
  refine wp_region_lit ?_
  refine list_yield (.agg Z14) rfl (by go_simp) ?_
  refine wpList_store_row rfl 24 (.tmp 2) (.tmp 50) rfl w.heap.size Z14 rfl rfl 24 Z14 HD.out.ans HZ.out rfl z14_one ?_
  go_wp2
  exact read_end .zero _ rfl rfl rfl rfl (HD.out.put _).1 (HD.out.put _).2

/-- The memory while the document goes over a kind's fields. -/
structure Over (w : World) (k : Int) (g : Nat) (l : List (Int × Int)) (wr : World) : Prop where
  docs : Docs w k wr
  row : Holds wr g 76 (rowsOf l).toArray
section
variable {w wr w' : World} {k : Int} {g : Nat} {l : List (Int × Int)}
theorem Over.alloc (h : Over w k g l wr) (o : Obj) : Over w k g l (wr.alloc o) := ⟨h.docs.alloc o, h.row.alloc o⟩
theorem Over.on (h : Over w k g l wr) (hb : Below wr.heap.size wr w') : Over w k g l w' := ⟨h.docs.on hb, h.row.below hb h.row.lt⟩
theorem Over.cells (h : Over w k g l wr) {j : Nat} (hj : j < l.length) : wr.cell? ⟨g, j * 3, none⟩ = some (.int .i64 (sizeF l[j].1 : Int)) ∧ wr.cell? ⟨g, j * 3 + 1, none⟩ = some (.int .i64 l[j].2) ∧ wr.cell? ⟨g, j * 3 + 2, none⟩ = some (.int .i64 (mostF l[j].1)) :=
  Going.cells (w := w) ⟨h.docs.below, h.row⟩ hj
end
theorem lenF_append (a b : List Int) : lenF (a ++ b) = lenF a + lenF b := by unfold lenF; rw [List.map_append, List.sum_append]
theorem lenF_take {l : List (Int × Int)} {j : Nat} (hj : j < l.length) : lenF ((l.take (j + 1)).map (·.1)) = lenF ((l.take j).map (·.1)) + sizeF l[j].1 := by
  rw [List.take_succ_eq_append_getElem hj, List.map_append, lenF_append]
  rfl
theorem lenF_take_le (l : List (Int × Int)) (j : Nat) : lenF ((l.take j).map (·.1)) ≤ lenF (l.map (·.1)) := by
  have : l.map (·.1) = (l.take j).map (·.1) ++ (l.drop j).map (·.1) := by rw [← List.map_append, List.take_append_drop]
  rw [this, lenF_append]
  omega
/-- The fields of a kind, as the document has them. -/
theorem blank_fields {k : Int} {w : World} (h1 : 1 ≤ k) (h2 : k ≤ 6) {l : List (Int × Int)} (hl : (Fr.of k []).fields = l) (W : World) (hd : Docs w k W) :
    Calls Try.prog 28 #[.agg #[.int .i64 k, .int .i64 0, .int .i64 0, .int .i64 0, .int .u16 0, .int .u16 0, .int .i64 0, .int .i64 0, .int .i64 0, .int .i64 0, .int .i64 0, .int .i64 0, .int .i64 0, .int .i64 0]] W
      fun e w' => ∃ g, e = .returned (.slice (some ⟨g, 0, none⟩) l.length l.length) ∧ Over w k g l w' ∧ Below W.heap.size W w' :=
  (fields_any (Pl.blank k) _ W (blank_wf (by omega) (by omega)) (blank_fr h1 h2)).mono fun e w' ⟨g, he, hh, _, hb⟩ => by
    subst hl
    exact ⟨g, he, ⟨hd.on hb, hh⟩, hb⟩
set_option maxRecDepth 100000 in
set_option maxHeartbeats 4000000 in
theorem rread_short (A : Option Addr) (n c : Nat) (k : Int) (zs : List Int) (w : World) (hr : IntRow w .u8 A n c (k :: zs)) (hn : n ≤ 64) (h1 : 1 ≤ k) (h2 : k ≤ 6) (hne : n ≠ lenF (whats k) + 3) : Calls Try.prog 16 #[.slice A n c] w (Told (readVal (none, 3)) w) := by
  have hl := hr.len_eq
  have hn0 : 0 < n := by simp at hl; omega
  obtain ⟨b, off, rfl, hb, hc⟩ := hr.cell hn0
  have c0 := hc 0 hn0
  simp only [Nat.add_zero, List.getD_cons_zero] at c0
  obtain ⟨l, hll⟩ : ∃ l, (Fr.of k []).fields = l := ⟨_, rfl⟩
  have hlw : l.map (·.1) = whats k := by rw [← hll, Fr.fields_whats, Fr.of_kind h1 h2]
  have hf := fun W (hd : Docs w k W) => blank_fields h1 h2 hll W hd
  have hlen := lenF_le k
  have hlen1 : 1 ≤ lenF (whats k) := by rcases kind_cases h1 h2 with rfl | rfl | rfl | rfl | rfl | rfl <;> decide
  have hm : l.length ≤ 8 := by rw [← hll]; rcases kind_cases h1 h2 with rfl | rfl | rfl | rfl | rfl | rfl <;> decide
  rw [← hlw] at hne hlen hlen1
  obtain ⟨m, hmm⟩ : ∃ m, l.length = m := ⟨_, rfl⟩
  obtain ⟨L, hL⟩ : ∃ L, lenF (l.map (·.1)) = L := ⟨_, rfl⟩
  rw [hmm] at hm
  rw [hL] at hne hlen hlen1
  simp only [hmm] at hf
  have HM := Lib.hid hmm
  have HL := Lib.hid hL
  have HZ := Lib.hid plain_size2
  have hne' : ¬ ((3 : Int) + (L : Int) = (n : Int)) := by omega
  have e1 : ((3 : Int) + (L : Int) == 3) = false := by simp; omega
  have e2 : ((3 : Int) + (L : Int) != (n : Int)) = true := by simp; omega
  have E1 := Lib.hid e1
  have E2 := Lib.hid e2
  clear hc hr hl hmm hL hlw hll e1 e2 hne' hne
  go_enter Try.func16, Try.ntmps16
  have c1 := World.cell?_alloc_lt w (.cells #[.int .i64 0, .int .i64 0, .int .i64 0, .int .i64 0, .int .u16 0, .int .u16 0, .int .i64 0, .int .i64 0, .int .i64 0, .int .i64 0, .int .i64 0, .int .i64 0, .int .i64 0, .int .i64 0] 24) ⟨b, off, none⟩ hb
  go_wp2_with (go_at_call 28; refine (hf _ (Docs.start w k)).mono ?_; rintro e w1 ⟨g, rfl, ho1, hb1⟩; have HO1 := Lib.hid ho1; clear ho1)
  clear c1 c0
  go_loopw [5, 33] (fun t i wr => ∃ j : Nat, j ≤ m ∧ i = .int .i64 j ∧ t = .int .i64 (3 + (lenF ((l.take j).map (·.1)) : Int)) ∧ Over w k g l wr) (fun _ i _ => m - (intOf i).toNat)
  case atStart => exact ⟨0, Nat.zero_le _, rfl, rfl, HO1.out⟩
  case round =>
    obtain ⟨j, hj, rfl, rfl, hov⟩ := hrel
    have HO := Lib.hid hov
    clear hov HO1
    have hle : lenF ((l.take j).map (·.1)) ≤ L := by rw [← HL.out]; exact lenF_take_le l j
    by_cases hlt : j < m
    · have hjl : j < l.length := by rw [HM.out]; exact hlt
      obtain ⟨c0, c1, c2⟩ := HO.out.cells hjl
      have hT := Lib.hid (lenF_take hjl)
      have hz := size_le l[j].1
      obtain ⟨X, hX⟩ : ∃ X, l[j] = X := ⟨_, rfl⟩
      rw [hX] at c0 c1 c2 hT hz
      clear hX
      obtain ⟨T, hTT⟩ : ∃ T, lenF ((l.take j).map (·.1)) = T := ⟨_, rfl⟩
      rw [hTT] at hT hle
      rw [hTT]
      clear hTT
      obtain ⟨Z, hZ⟩ : ∃ Z, sizeF X.1 = Z := ⟨_, rfl⟩
      rw [hZ] at c0 hT hz
      clear hZ
      go_wp2
      go_roundw
      case rel => exact ⟨j + 1, by omega, by go_num, by rw [hT.out]; go_num, HO.out.alloc _⟩
      case measure => simp [intOf]; omega
    · have hT : Hid (lenF ((l.take j).map (·.1)) = L) := by
        rw [List.take_of_length_le (by have := HM.out; omega)]
        exact HL
      have e1 := E1.out
      have e2 := E2.out
      rw [hT.out]
      go_upto_region 13 with (fail)
      refine wp_region_lit ?_
      refine list_yield (.agg Z14) rfl (by go_simp) ?_
      refine wpList_store_row rfl 24 (.tmp 2) (.tmp 50) rfl w.heap.size Z14 rfl rfl 24 Z14 HO.out.docs.ans HZ.out rfl z14_one ?_
      go_wp2
      exact read_end .zero _ rfl rfl rfl rfl (HO.out.docs.put _).1 (HO.out.docs.put _).2
end Go.Proofs.Ytbdlpkkgfhknkaa

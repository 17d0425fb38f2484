/- Texts of this seat, one behind the other. -/
import Derived.WalkKit
import Derived.ProofKit
import Derived.OpenShut
import Derived.Carry
import Derived.IntWalk
import Derived.PlainAid
import Derived.Deep.Draws
import Derived.Lib.Hide
import Derived.Maps.AppendAt
import Derived.Deep.AppendLies
import Derived.Laws.OwnMore
import Derived.Laws.BytesArg
import Derived.OwnWalk
import Derived.Below
import Derived.Laws.CopyOwn
import Derived.Lib.AppendZerosOnto
import Derived.ArgAppend
import Derived.OrdersHeld
import Derived.StillTail
import Derived.Deep.RegionHeld
import Derived.Test.YtgmeakcfiaopcaaProg
import Derived.Outline
import Derived.LoopTactic
import Derived.Deep.RegionLaw
import Derived.Deep.CutBlock
import Derived.LoopN
import Derived.BigQuiet
import Derived.Maps.OwnOps
import Derived.Maps.OwnSet
import Derived.Maps.Views
import Derived.Deep.QuietTactic
import Derived.Deep.RegionHeld3
import Derived.BigRegion
import Derived.Deep.Slices
import Derived.Deep.Fields
import Derived.ChangeMaps5
/- What all proofs of this seat share: how a law's arguments are opened, and what is owed behind a call that wrote to new memory alone. Nothing here speaks of one program. -/
namespace Go.Proofs.Ytgmeakcfiaopcaa
open Go.ChangeShapes Go.WideShapes Go.ChangeAt Go.RowKit Go.ChangeMaps Go.WideElems

def F8 (n : Int) : Prop := 0 ≤ n ∧ n ≤ 255
def F16 (n : Int) : Prop := 0 ≤ n ∧ n ≤ 65535
def F32 (n : Int) : Prop := 0 ≤ n ∧ n ≤ 4294967295
def Fits (n : Int) : Prop := -9223372036854775808 ≤ n ∧ n ≤ 9223372036854775807
theorem fits_wf {n : Int} (h : (Lit.int .i64 n).wf = true) : Fits n := bounds_i64 h
theorem f32_wf {n : Int} (h : (Lit.int .u32 n).wf = true) : F32 n := bounds_u32 h
theorem f16_wf {n : Int} (h : (Lit.int .u16 n).wf = true) : F16 n := bounds_u16 h
theorem f8_wf {n : Int} (h : (Lit.int .u8 n).wf = true) : F8 n := bounds_u8 h
theorem ret_int {k : IntKind} {a b : Int} (h : a = b) : Ending.returned (.int k a) = .returned (.int k b) := by rw [h]
theorem ret_bool {a b : Bool} (h : a = b) : Ending.returned (.bool a) = .returned (.bool b) := by rw [h]
theorem ret_ib {k : IntKind} {a b : Int} {o p : Bool} (h : a = b) (g : o = p) : Ending.returned (.tuple #[.int k a, .bool o]) = .returned (.tuple #[.int k b, .bool p]) := by rw [h, g]
theorem ret_ii {k l : IntKind} {a b c d : Int} (h : a = b) (g : c = d) : Ending.returned (.tuple #[.int k a, .int l c]) = .returned (.tuple #[.int k b, .int l d]) := by rw [h, g]
theorem wrap_u32 (n : Int) : IntKind.u32.wrap n = n % 4294967296 := by simp [IntKind.wrap, IntKind.bits, IntKind.signed]
theorem wrap_u16 (n : Int) : IntKind.u16.wrap n = n % 65536 := by simp [IntKind.wrap, IntKind.bits, IntKind.signed]
theorem wrap_u8 (n : Int) : IntKind.u8.wrap n = n % 256 := by simp [IntKind.wrap, IntKind.bits, IntKind.signed]

/-- A slice of one-cell integers that came in: its cells, as far as its length goes, at a plain address below the heap's end. -/
structure IntRow (W : World) (k : IntKind) (A : Option Addr) (len cap : Nat) (zs : List Int) : Prop where
  len_eq : zs.length = len
  cap_le : len ≤ cap
  max : cap ≤ maxLen
  nil : A = none → cap = 0
  cell : 0 < len → ∃ b off, A = some ⟨b, off, none⟩ ∧ b < W.heap.size ∧ ∀ j, j < len → W.cell? ⟨b, off + j, none⟩ = some (.int k (zs.getD j 0))
  wf : ∀ n ∈ zs, (Lit.int k n).wf = true

theorem block_lt {W : World} {p : Addr} {v : Value} (h : W.cell? p = some v) : p.block < W.heap.size := by
  rcases Nat.lt_or_ge p.block W.heap.size with hlt | hge
  · exact hlt
  · exfalso
    unfold World.cell? at h
    have e : W.heap[p.block]? = none := Array.getElem?_eq_none hge
    rw [e] at h
    simp at h

section
variable {H : Type} {enc : TypeId × Value → H} {P : Program}
theorem ints_arg {W : World} {t e : TypeId} {k : IntKind} {v : Value} {d : DataW H} {p : List MemPlace} (ht : P.underlying t = some (.slice e)) (he : P.underlying e = some (.int k)) (hc : P.cellsOf e = 1)
    (hv : Value.okWide P W .any 0 t v) (h : DataW.Trod enc P W 0 (fun _ => true) true t v d p) :
    ∃ A len cap zs, v = .slice A len cap ∧ IntRow W k A len cap zs := by
  obtain ⟨A, len, cap, rfl⟩ := okWide_slice ht hv
  obtain ⟨fuel, hf⟩ := h
  rcases open_ints ht he hc hf with ⟨hcs, _⟩ | ⟨a, len', cap', zs, hcs, _, hl, hm, hz, _, hcell, hwz⟩
  · simp [Value.cells] at hcs
    obtain ⟨rfl, rfl, rfl⟩ := hcs
    exact ⟨none, 0, 0, [], rfl, rfl, Nat.le_refl _, by simp [maxLen], fun _ => rfl, fun h => absurd h (Nat.lt_irrefl _), by simp⟩
  · simp [Value.cells] at hcs
    obtain ⟨rfl, rfl, rfl⟩ := hcs
    simp only [if_true] at hz
    refine ⟨some a, len, cap, zs.take len, rfl, by rw [List.length_take]; omega, hl, hm, (fun h => by cases h), fun h0 => ?_, fun n hn => hwz n (List.mem_of_mem_take hn)⟩
    obtain ⟨b, off, rfl, hh⟩ := ints_at hcell (by omega)
    refine ⟨b, off, rfl, block_lt (hh 0 (by omega)), fun j hj => ?_⟩
    rw [hh j (by omega)]
    simp [List.getD, hj]

theorem trodAll_stays (hl : laidOutB P = true) {W W' : World} {sp : Nat → Bool} :
    ∀ {ts : List TypeId} {vs : List Value} {ds : List (DataW H)} {ps : List MemPlace}, (∀ t ∈ ts, P.readableRec t = true ∧ t < P.types.size) → DataW.TrodAll enc P W 0 (fun _ => true) true ts vs ds ps →
      (∀ x ∈ ps, W.sameAt W' x) → (∀ x ∈ ps, sp x.block = true) → DataW.TrodAll enc P W' 0 sp true ts vs ds ps
  | [], _, _, _, _, h, _, _ => by
    obtain ⟨rfl, rfl, rfl⟩ := trodAll_nil h
    exact trodAll_mk0
  | t :: ts, _, _, _, ht, h, hs, hp => by
    obtain ⟨v, vs, d, ds, p, q, rfl, rfl, rfl, h1, h2⟩ := trodAll_cons h
    have ht0 := ht t (List.mem_cons.2 (Or.inl rfl))
    exact trodAll_cons_mk (Trod_stays hl ht0.1 ht0.2 h1 (fun x hx => hs x (List.mem_append_left _ hx)) (fun x hx => hp x (List.mem_append_left _ hx)))
      (trodAll_stays hl (fun t' h' => ht t' (List.mem_cons.2 (Or.inr h'))) h2 (fun x hx => hs x (List.mem_append_right _ hx)) (fun x hx => hp x (List.mem_append_right _ hx)))

theorem post_of_below {f : Func} {s : ChangeSpec} {apart fresh handsOn again : Bool} {W W' : World} {args : Array Value} {v : Value} {ds gs : List (DataW H)} {before pa pv : List MemPlace}
    (hW : DataW.Whole enc P f.params.toList s.vars apart W args.toList ds gs before)
    (hres : ∀ (b : Nat) (sp : Nat → Bool) (hd : Bool), DataW.TrodAll enc P W' b sp hd f.resultTypes.toList (v.resultList f.resultTypes.size) (s.fn H (ds ++ gs)).results [])
    (hargs : ∀ sp : Nat → Bool, (∀ p ∈ before, sp p.block = true) → DataW.TrodAll enc P W' 0 sp true f.params.toList args.toList (s.fn H (ds ++ gs)).args pa)
    (hvars : ∀ sp : Nat → Bool, (∀ p ∈ before, sp p.block = true) → DataW.TrodVars enc P W' sp s.vars (s.fn H (ds ++ gs)).vars pv)
    (hps : before = pa ++ pv) (hb : Below W.heap.size W W')
    (hok : ∀ (j : Nat) (t : TypeId) (r : Value), f.resultTypes[j]? = some t → (v.resultList f.resultTypes.size)[j]? = some r → Value.okWide P W' .any 0 t r) :
    s.post enc P f apart fresh handsOn again W args v W' := by
  have hlt : ∀ p ∈ before, p.block < W.heap.size := fun p hp => hW.lt p hp
  have hold : ∀ p ∈ before, (fun b => decide (b < W.heap.size)) p.block = true := fun p hp => by simpa using hlt p hp
  refine ⟨ds, gs, before, [], pa, pv, hW, hres _ _ _, hargs _ hold, hvars _ hold, World.keptBut_mono (fun p hp => ⟨hp, ?_⟩) (hb.frame (· ∈ before)), fun _ => ?_⟩
  · rw [hps, List.mem_append] at hp
    exact Or.inr hp
  · obtain ⟨_, _, _, _, _, hz, hn⟩ := hW
    refine ⟨hok, _, _, ([] ++ pa) ++ pv, ⟨[] ++ pa, pv, trodAll_append (hargs _ (fun _ _ => rfl)) (hres _ _ _), hvars _ (fun _ _ => rfl), rfl, ?_, ?_⟩, ?_⟩
    · intro b off hp
      have hin : MemPlace.cell b off ∈ before := by rw [hps]; simpa using hp
      rw [hb.frozen (hlt _ hin)]
      exact hz b off hin
    · intro ha
      have := hn ha
      rw [hps] at this
      simpa using this
    · intro p hp _
      rw [hps]
      simpa using hp

/-- What a law owes behind the call, where it answered true and wrote to new memory alone. -/
theorem law_post {f : Func} {s : ChangeSpec} {apart fresh handsOn again : Bool} {W W' : World} {args : Array Value} {ds : List (DataW H)} {before : List MemPlace} {tb : TypeId}
    (hW : DataW.Whole enc P f.params.toList s.vars apart W args.toList ds [] before) (hA : DataW.TrodAll enc P W 0 (fun _ => true) true f.params.toList args.toList ds before)
    (hsv : s.vars = []) (hl : laidOutB P = true) (hr : (f.params.toList.all fun t => P.readableRec t && decide (t < P.types.size)) = true) (hrt : f.resultTypes = #[tb]) (hbt : P.underlying tb = some .bool)
    (hfr : (s.fn H (ds ++ [])).results = [.lit (.bool true)]) (hfa : (s.fn H (ds ++ [])).args = ds) (hfv : (s.fn H (ds ++ [])).vars = []) (hb : Below W.heap.size W W') :
    s.post enc P f apart fresh handsOn again W args (.bool true) W' := by
  have hlt : ∀ p ∈ before, p.block < W.heap.size := fun p hp => hW.lt p hp
  refine post_of_below (pa := before) (pv := []) hW ?_ ?_ ?_ (by simp) hb ?_
  · intro b sp hd
    rw [hfr, hrt]
    exact trodAll_mk1 (shut_bool hbt _)
  · intro sp hsp
    rw [hfa]
    refine trodAll_stays hl (fun t ht => ?_) hA (fun x hx => hb.same (hlt x hx)) hsp
    have := List.all_eq_true.1 hr t ht
    simpa using this
  · intro sp _
    rw [hfv, hsv]
    rfl
  · intro j t r h1 h2
    exact ok_one hrt rfl (okWide_bool_mk hbt _) j t r h1 h2
end

theorem below_drewN {B : Nat} {a w : World} (h : Below B a w) (n : Nat) : Below B a (w.drewN n) := ⟨h.os, h.tape, h.output, h.size, h.block⟩
end Go.Proofs.Ytgmeakcfiaopcaa

/- Rows of integers: those that came in, those that a call made, pieces of them, one appended to another. Nothing here speaks of one program. -/
namespace Go.Proofs.Ytgmeakcfiaopcaa
open Go.RowKit

theorem size_alloc (w : World) (o : Obj) : (w.alloc o).heap.size = w.heap.size + 1 := by simp
theorem below_alloc (w : World) (o : Obj) : Below w.heap.size w (w.alloc o) := (Below.refl _ _).alloc (Nat.le_refl _) o

section
variable {w w' : World} {k : IntKind} {A : Option Addr} {n c B : Nat} {e : TypeId} {zs : List Int}

theorem IntRow.keep (h : IntRow w k A n c zs) (hs : w.heap.size ≤ w'.heap.size) (hk : ∀ b o, b < w.heap.size → w'.cell? ⟨b, o, none⟩ = w.cell? ⟨b, o, none⟩) : IntRow w' k A n c zs :=
  ⟨h.len_eq, h.cap_le, h.max, h.nil, fun hn => by
    obtain ⟨b, off, e, hb, hc⟩ := h.cell hn
    exact ⟨b, off, e, Nat.lt_of_lt_of_le hb hs, fun j hj => (hk _ _ hb).trans (hc j hj)⟩, h.wf⟩
theorem IntRow.below (h : IntRow w k A n c zs) (hb : Below w.heap.size w w') : IntRow w' k A n c zs := h.keep hb.size fun b o hlt => hb.cell (p := ⟨b, o, none⟩) hlt
theorem IntRow.alloc (h : IntRow w k A n c zs) (o : Obj) : IntRow (w.alloc o) k A n c zs := h.below (below_alloc w o)
theorem IntRow.drewN (h : IntRow w k A n c zs) (m : Nat) : IntRow (w.drewN m) k A n c zs := h.below (below_drewN (Below.refl _ _) m)
theorem IntRow.pre (h : IntRow w k A n c zs) {m : Nat} (hm : m ≤ n) : IntRow w k A m c (zs.take m) :=
  ⟨by rw [List.length_take, h.len_eq]; omega, Nat.le_trans hm h.cap_le, h.max, h.nil, fun h0 => by
    obtain ⟨b, off, e, hb, hc⟩ := h.cell (by omega)
    refine ⟨b, off, e, hb, fun j hj => ?_⟩
    rw [hc j (by omega)]
    simp [List.getD, hj], fun n hn => h.wf n (List.mem_of_mem_take hn)⟩
/-- The integers that lie in a row, as cells. -/
theorem IntRow.of_own (h : w.ownsRow B e 1 (.slice A n c) n (zs.map (.int k))) (hw : ∀ n ∈ zs, (Lit.int k n).wf = true) : IntRow w k A n c zs := by
  have hl : zs.length = n := by have := h.1; simpa using this
  rcases h.2 with ⟨he, hn⟩ | ⟨g, cap, cur, he, hB, hg, hnc, hcm, hcs, htake⟩
  · simp only [Value.slice.injEq] at he
    obtain ⟨rfl, rfl, rfl⟩ := he
    exact ⟨hl, Nat.le_refl _, by simp [maxLen], fun _ => rfl, fun h => absurd h (Nat.lt_irrefl _), hw⟩
  · simp only [Value.slice.injEq, true_and] at he
    obtain ⟨rfl, rfl⟩ := he
    refine ⟨hl, hnc, hcm, (fun h => by cases h), fun h0 => ⟨g, 0, rfl, (Array.getElem?_eq_some_iff.1 hg).1, fun j hj => ?_⟩, hw⟩
    have := World.ownsRow.cellAt h j (by omega)
    rw [Nat.zero_add, this]
    simp [List.getD, show j < zs.length by omega]
theorem own_keep {v : Value} {xs : List Value} (h : w.ownsRow B e 1 v n xs) (hb : Below w.heap.size w w') : w'.ownsRow B e 1 v n xs :=
  h.kept (row := none) ⟨hb.os, hb.tape, hb.output, hb.size, fun k hk _ => hb.block k hk⟩ (by
    rcases h.2 with ⟨rfl, _⟩ | ⟨g, cap, cur, rfl, _⟩
    · exact .inl rfl
    · exact .inr (by simp [Value.ownBlock]))
theorem own_mono {v : Value} {xs : List Value} (h : w.ownsRow B e 1 v n xs) {B' : Nat} (hB : B' ≤ B) : w.ownsRow B' e 1 v n xs :=
  ⟨h.1, by
    rcases h.2 with h | ⟨g, cap, cur, rfl, hg, r⟩
    · exact .inl h
    · exact .inr ⟨g, cap, cur, rfl, Nat.le_trans hB hg, r⟩⟩
end

section
variable {w w' : World} {k : IntKind} {A : Option Addr} {n c B : Nat} {e : TypeId} {zs : List Int}
/-- A cell of a row of the call's own is written. -/
theorem own_set {g : Nat} (h : w.ownsRow B e 1 (.slice (some ⟨g, 0, none⟩) n c) n (zs.map (.int k))) (j : Nat) (z : Int) :
    (w.setCell ⟨g, j, none⟩ (.int k z)).ownsRow B e 1 (.slice (some ⟨g, 0, none⟩) n c) n ((zs.set j z).map (.int k)) := by
  rw [List.map_set]
  exact (h.stored j _).1
theorem own_cell {g : Nat} (h : w.ownsRow B e 1 (.slice (some ⟨g, 0, none⟩) n c) n (zs.map (.int k))) {j : Nat} (hj : j < n) : w.cell? ⟨g, j, none⟩ = some (.int k (zs[j]?.getD 0)) := by
  have hl := h.1
  rw [List.length_map, Nat.mul_one] at hl
  have := World.ownsRow.cellAt h j (by omega)
  rw [this, List.getElem?_map, List.getElem?_eq_getElem (by omega)]
  rfl
theorem own_form {A : Option Addr} (h : w.ownsRow B e 1 (.slice A n c) n (zs.map (.int k))) (hn : 0 < n) : ∃ g, A = some ⟨g, 0, none⟩ ∧ B ≤ g ∧ g < w.heap.size := by
  obtain ⟨g, cap, he, h1, h2⟩ := h.form hn
  simp only [Value.slice.injEq] at he
  exact ⟨g, he.1, h1, h2⟩
end
theorem wf_set {k : IntKind} {zs : List Int} (h : ∀ n ∈ zs, (Lit.int k n).wf = true) {z : Int} (hz : (Lit.int k z).wf = true) (j : Nat) : ∀ n ∈ zs.set j z, (Lit.int k n).wf = true := fun n hn => by
  rcases List.mem_or_eq_of_mem_set hn with h1 | rfl
  · exact h n h1
  · exact hz

/-- A row that was just laid. -/
theorem IntRow.laid (w : World) (e : TypeId) (k : IntKind) (zs : List Int) (m : Nat) (hm : zs.length = m) (h63 : m ≤ maxLen) (hw : ∀ n ∈ zs, (Lit.int k n).wf = true) :
    IntRow (w.alloc (.cells (zs.map (Value.int k)).toArray e)) k (some ⟨w.heap.size, 0, none⟩) m m zs :=
  IntRow.of_own (B := 0) (e := e) (by simpa using World.ownsRow_lit (base := 0) (size := 1) w (zs.map (Value.int k)).toArray m (Nat.zero_le _) h63 (by simp [hm])) hw
/-- A constant row that was just laid. -/
theorem IntRow.laid_fr (w : World) (e : TypeId) (k : IntKind) (zs : List Int) (m : Nat) (fr : Nat × Nat) (hm : zs.length = m) (h63 : m ≤ maxLen) (hw : ∀ n ∈ zs, (Lit.int k n).wf = true) :
    IntRow (w.alloc (.cells (zs.map (Value.int k)).toArray e fr)) k (some ⟨w.heap.size, 0, none⟩) m m zs :=
  ⟨hm, Nat.le_refl _, h63, (fun h => by cases h), fun _ => ⟨_, 0, rfl, by simp, fun j hj => by
    rw [Nat.zero_add, cell_of_row _ _ j _ e fr (heap_alloc_new w _)]
    simp [List.getD, show j < zs.length by omega]⟩, hw⟩
/-- A call answers a row of integers of its own. -/
def GaveRow (el : TypeId) (k : IntKind) (w : World) (n : Nat) (zs : List Int) (e : Ending) (w' : World) : Prop :=
  ∃ A c, e = .returned (.slice A n c) ∧ w'.ownsRow w.heap.size el 1 (.slice A n c) n (zs.map (.int k)) ∧ Below w.heap.size w w'
theorem gave {el : TypeId} {k : IntKind} {w w' : World} {n : Nat} {zs : List Int} {A : Option Addr} {c : Nat} (ho : w'.ownsRow w.heap.size el 1 (.slice A n c) n (zs.map (.int k))) (hb : Below w.heap.size w w') :
    GaveRow el k w n zs (.returned (.slice A n c)) w' := ⟨A, c, rfl, ho, hb⟩

section
variable {P : Program} (w : World)
theorem run_append_row (B : Nat) (t ty e : TypeId) (i : TypeInfo) (z : Value) (bytes : Nat) (ht : P.underlying t = some (.slice e)) (hi : P.info? e = some i) (hz : i.zero = some z)
    (hsize : i.size = 1) (hby : i.bytes = bytes) (hzs : z.cells.size = 1) (v : Value) (n : Nat) (xs : List Value) (hown : w.ownsRow B e 1 v n xs)
    (k : IntKind) (A : Option Addr) (m c : Nat) (zs : List Int) (hr : IntRow w k A m c zs) (h63 : n + m ≤ maxLen) (hbytes : (n + m) * bytes ≤ 140737488355328) (hbase : B ≤ w.heap.size) :
    ∃ A' c' w', (Builtin.append_ #[t, t] ty #[v, .slice A m c]).run P w = .ok (.slice A' (n + m) c') w' ∧ w'.ownsRow B e 1 (.slice A' (n + m) c') (n + m) (xs ++ zs.map (.int k)) ∧ Below B w w' := by
  have hshape : ∀ (w1 : World) (v1 : Value) (l : Nat) (ys : List Value), w1.ownsRow B e 1 v1 l ys → ∃ A' c', v1 = .slice A' l c' := by
    intro w1 v1 l ys h
    rcases h.2 with ⟨rfl, rfl⟩ | ⟨g, cap, cur, rfl, _⟩
    · exact ⟨_, _, rfl⟩
    · exact ⟨_, _, rfl⟩
  rcases A with _ | ad
  · have hc := hr.nil rfl
    have hcl := hr.cap_le
    obtain rfl : m = 0 := by omega
    have hn : zs = [] := List.eq_nil_of_length_eq_zero hr.len_eq
    subst hn
    obtain ⟨A', c', rfl⟩ := hshape _ _ _ _ hown
    refine ⟨A', c', w, ?_, by simpa using hown, Below.refl _ _⟩
    rw [Nat.add_zero]
    exact run_append_owned_none (P := P) w B t ty e i 1 ht hi _ n xs hown
  · obtain ⟨v', w', h1, h2, h3, _, _⟩ := run_append_own_at (P := P) w B t ty e i z 1 bytes ht hi hz hsize hby hzs (by omega) v n xs hown ad m c (zs.map (.int k)) (by simpa using hr.len_eq)
      (fun j u hu => by
        have hj : j < m := by
          have := (List.getElem?_eq_some_iff.1 hu).1
          have := hr.len_eq
          simp at *
          omega
        obtain ⟨b, off, e1, _, hc⟩ := hr.cell (by omega)
        simp only [Option.some.injEq] at e1
        subst e1
        have hp : (⟨b, off, none⟩ : Addr).add j = ⟨b, off + j, none⟩ := by unfold Addr.add; split <;> simp_all
        rw [hp, hc j hj]
        have hjl : j < zs.length := by rw [hr.len_eq]; exact hj
        simp [List.getElem?_eq_getElem hjl] at hu
        simp [List.getD, List.getElem?_eq_getElem hjl, hu])
      (ints_oneCell k zs) h63 hbytes hbase
    obtain ⟨A', c', rfl⟩ := hshape _ _ _ _ h2
    exact ⟨A', c', w', h1, h2, (Below.refl _ _).grown h3 hbase (fun g hg => (hown.lt g hg).1)⟩

/-- What is appended to a row of the call's own is a row that reads. -/
theorem wpList_append_row {ops : Array Oper} {rest : List Oper} {o : Oper} {a : Act} {Q : Exit → Act → World → Prop} (hgd : o.guard = none) (s x : Operand) (t : TypeId)
    (ho : o.op = .call { callee := .builtin .append, args := #[s, x], argTypes := #[t, t] })
    (B : Nat) (e : TypeId) (i : TypeInfo) (z : Value) (bytes : Nat) (ht : P.underlying t = some (.slice e)) (hi : P.info? e = some i) (hz : i.zero = some z)
    (hsize : i.size = 1) (hby : i.bytes = bytes) (hzs : z.cells.size = 1) (v : Value) (n : Nat) (xs : List Value) (hs : a.eval s = v) (hown : w.ownsRow B e 1 v n xs)
    (k : IntKind) (A : Option Addr) (m c : Nat) (zs : List Int) (hx : a.eval x = .slice A m c) (hr : IntRow w k A m c zs) (h63 : n + m ≤ maxLen) (hbytes : (n + m) * bytes ≤ 140737488355328) (hbase : B ≤ w.heap.size)
    (h : ∀ A' c' w', w'.ownsRow B e 1 (.slice A' (n + m) c') (n + m) (xs ++ zs.map (.int k)) → Below B w w' → wpList P ops Q rest (a.put o.dst (.slice A' (n + m) c')) w') :
    wpList P ops Q (o :: rest) a w := by
  refine wpList_plain hgd fun K hK => ?_
  obtain ⟨A', c', w', hrun, h2, h3⟩ := run_append_row (P := P) w B t o.type e i z bytes ht hi hz hsize hby hzs v n xs hown k A m c zs hr h63 hbytes hbase
  unfold Oper.wp execOp
  simp only [ho, resolve, invoke, builtin, Sem.run_bind, Sem.run_pure, Result.andThen_ok, List.map_toArray, List.map_cons, List.map_nil, hs, hx, hrun]
  exact hK _ _ (h A' c' w' h2 h3)

/-- Bytes that lie in a row, as a string. -/
theorem run_convert_row (src e dst : TypeId) (hs : P.underlying src = some (.slice e)) (he : P.underlying e = some (.int .u8)) (hd : P.underlying dst = some .string)
    (A : Option Addr) (m c : Nat) (zs : List Int) (hr : IntRow w .u8 A m c zs) : (convert src dst (.slice A m c)).run P w = .ok (.string (strOfNums zs)) w := by
  rcases A with _ | ad
  · have hc := hr.nil rfl
    have hcl := hr.cap_le
    obtain rfl : m = 0 := by omega
    have hn : zs = [] := List.eq_nil_of_length_eq_zero hr.len_eq
    subst hn
    exact run_convert_bytes_nil (P := P) w src e hs he 0 c dst hd
  · by_cases hm : 0 < m
    · obtain ⟨b, off, e1, _, hc⟩ := hr.cell hm
      simp only [Option.some.injEq] at e1
      subst e1
      exact run_convert_bytes_arg (P := P) w src e hs he b off m c zs hr.len_eq hc dst hd
    · obtain rfl : m = 0 := by omega
      have hn : zs = [] := List.eq_nil_of_length_eq_zero hr.len_eq
      subst hn
      rw [run_convert_bytes_string w src dst e _ 0 c hs he hd]
      rfl
end
end Go.Proofs.Ytgmeakcfiaopcaa

/- Blocks of a call's own that are known whole (structs behind pointers), and rows of integers beside them. Nothing here speaks of one program. -/
namespace Go.Proofs.Ytgmeakcfiaopcaa
open Go.RowKit

/-- Block g holds just these cells, and none is frozen. -/
def Holds (w : World) (g : Nat) (t : TypeId) (cs : Array Value) : Prop := w.heap[g]? = some (.cells cs t (0, 0))

section
variable {w w' : World} {g : Nat} {t : TypeId} {cs : Array Value}
theorem Holds.lt (h : Holds w g t cs) : g < w.heap.size := (Array.getElem?_eq_some_iff.1 h).1
theorem Holds.cell (h : Holds w g t cs) (i : Nat) : w.cell? ⟨g, i, none⟩ = cs[i]? := cell_of_row w g i cs t (0, 0) h
theorem Holds.soft (h : Holds w g t cs) (i : Nat) : w.frozen? ⟨g, i, none⟩ = false := by
  have h' : w.heap[g]? = _ := h
  simp [World.frozen?, h']
theorem Holds.new (w : World) (t : TypeId) (cs : Array Value) : Holds (w.alloc (.cells cs t)) w.heap.size t cs := heap_alloc_new w _
theorem Holds.drewN (h : Holds w g t cs) (n : Nat) : Holds (w.drewN n) g t cs := h
theorem Holds.alloc (h : Holds w g t cs) (o : Obj) : Holds (w.alloc o) g t cs := (Below.heap_alloc w o g h.lt).trans h
theorem Holds.put (h : Holds w g t cs) (i : Nat) (u : Value) : Holds (w.setCell ⟨g, i, none⟩ u) g t (cs.setIfInBounds i u) := by
  have h' : w.heap[g]? = _ := h
  show (w.setCell ⟨g, i, none⟩ u).heap[g]? = _
  simp [World.setCell, Array.getElem?_modify, h']
theorem Holds.far (h : Holds w g t cs) {b i : Nat} (hb : g ≠ b) (u : Value) : Holds (w.setCell ⟨b, i, none⟩ u) g t cs := (Below.heap_setCell w ⟨b, i, none⟩ u g hb).trans h
theorem Holds.below {B : Nat} (h : Holds w g t cs) (hb : Below B w w') (hg : g < B) : Holds w' g t cs := (hb.block g hg).trans h
theorem Holds.grown {row : Option Nat} (h : Holds w g t cs) (hb : w.grownBy w' row) (hg : some g ≠ row) : Holds w' g t cs := (hb.block g h.lt hg).trans h
theorem Holds.apart {g' : Nat} {t' : TypeId} {cs' : Array Value} (h : Holds w g t cs) (h' : Holds w g' t' cs') (hne : t ≠ t') : g ≠ g' := by
  rintro rfl
  have e : some (Obj.cells cs t (0, 0)) = some (Obj.cells cs' t' (0, 0)) := h.symm.trans h'
  simp only [Option.some.injEq, Obj.cells.injEq] at e
  exact hne e.2.1
/-- A row of the call's own lies in another block than a struct of another type. -/
theorem Holds.own_apart {B : Nat} {e : TypeId} {n sz : Nat} {v : Value} {xs : List Value} (h : Holds w g t cs) (ho : w.ownsRow B e sz v n xs) (hne : e ≠ t) : v.ownBlock ≠ some g := by
  rcases ho.2 with ⟨rfl, _⟩ | ⟨g', cap, cur, rfl, _, hh, _⟩
  · simp [Value.ownBlock]
  · intro he
    have e' : g' = g := by simpa [Value.ownBlock] using he
    subst e'
    exact Holds.apart (t := e) hh h hne rfl
end

theorem grown_set (w : World) (g i : Nat) (u : Value) : w.grownBy (w.setCell ⟨g, i, none⟩ u) (some g) :=
  ⟨rfl, rfl, rfl, by simp [World.setCell], fun k _ hk => Below.heap_setCell w ⟨g, i, none⟩ u k (fun e => hk (by rw [e]))⟩
theorem grown_trans {a b c : World} {row : Option Nat} (h : a.grownBy b row) (k : b.grownBy c row) : a.grownBy c row :=
  ⟨k.os.trans h.os, k.tape.trans h.tape, k.output.trans h.output, Nat.le_trans h.size k.size, fun i hi hr => (k.block i (Nat.lt_of_lt_of_le hi h.size) hr).trans (h.block i hi hr)⟩
theorem grown_drewN {a b : World} {row : Option Nat} (h : a.grownBy b row) (n : Nat) : a.grownBy (b.drewN n) row := ⟨h.os, h.tape, h.output, h.size, h.block⟩

/-- A row of integers whose block, if there is one, is not older than B. -/
structure NewRow (B : Nat) (w : World) (k : IntKind) (A : Option Addr) (n c : Nat) (zs : List Int) : Prop where
  row : IntRow w k A n c zs
  newer : 0 < n → ∃ b off, A = some ⟨b, off, none⟩ ∧ B ≤ b

section
variable {w w' : World} {k : IntKind} {A : Option Addr} {n c B : Nat} {zs : List Int}
theorem NewRow.block (h : NewRow B w k A n c zs) (hn : 0 < n) : ∃ b off, A = some ⟨b, off, none⟩ ∧ B ≤ b ∧ b < w.heap.size ∧ ∀ j, j < n → w.cell? ⟨b, off + j, none⟩ = some (.int k (zs.getD j 0)) := by
  obtain ⟨b, off, e, hb⟩ := h.newer hn
  obtain ⟨b', off', e', hs, hc⟩ := h.row.cell hn
  rw [e] at e'
  simp only [Option.some.injEq, Addr.mk.injEq] at e'
  obtain ⟨rfl, rfl, _⟩ := e'
  exact ⟨b, off, e, hb, hs, hc⟩
theorem IntRow.keep1 (h : IntRow w k A n c zs) (hs : w.heap.size ≤ w'.heap.size) (hk : ∀ b off, A = some ⟨b, off, none⟩ → 0 < n → ∀ o, w'.cell? ⟨b, o, none⟩ = w.cell? ⟨b, o, none⟩) : IntRow w' k A n c zs :=
  ⟨h.len_eq, h.cap_le, h.max, h.nil, fun hn => by
    obtain ⟨b, off, e, hb, hc⟩ := h.cell hn
    exact ⟨b, off, e, Nat.lt_of_lt_of_le hb hs, fun j hj => (hk b off e hn _).trans (hc j hj)⟩, h.wf⟩
/-- Nothing changed but block g, which holds none of the row's integers. -/
theorem IntRow.grown {g : Nat} {t : TypeId} {cs : Array Value} (h : IntRow w k A n c zs) (hg : w.grownBy w' (some g)) (ho : Holds w g t cs) (hcs : ∀ (i : Nat) z, cs[i]? ≠ some (Value.int k z)) : IntRow w' k A n c zs := by
  refine h.keep1 hg.size fun b off e hn o => ?_
  obtain ⟨b', off', e', hs, hc⟩ := h.cell hn
  rw [e] at e'
  simp only [Option.some.injEq, Addr.mk.injEq] at e'
  obtain ⟨rfl, rfl, _⟩ := e'
  refine World.cell?_of_block (hg.block b hs fun e => ?_)
  simp only [Option.some.injEq] at e
  subst e
  have h0 := hc 0 hn
  rw [ho.cell] at h0
  exact hcs _ _ h0
theorem NewRow.grown {g : Nat} {t : TypeId} {cs : Array Value} (h : NewRow B w k A n c zs) (hg : w.grownBy w' (some g)) (ho : Holds w g t cs) (hcs : ∀ (i : Nat) z, cs[i]? ≠ some (Value.int k z)) : NewRow B w' k A n c zs := ⟨h.row.grown hg ho hcs, h.newer⟩
theorem NewRow.below (h : NewRow B w k A n c zs) (hb : Below w.heap.size w w') : NewRow B w' k A n c zs := ⟨h.row.below hb, h.newer⟩
/-- Cells of blocks older than the row's were written. -/
theorem NewRow.older (h : NewRow B w k A n c zs) {b i : Nat} (hb : b < B) (u : Value) : NewRow B (w.setCell ⟨b, i, none⟩ u) k A n c zs := by
  refine ⟨h.row.keep1 (by simp [World.setCell]) fun b' off e hn o => ?_, h.newer⟩
  obtain ⟨b2, off2, e2, hB⟩ := h.newer hn
  rw [e] at e2
  simp only [Option.some.injEq, Addr.mk.injEq] at e2
  refine World.cell?_of_block (Below.heap_setCell w ⟨b, i, none⟩ u b' (by show b' ≠ b; omega))
theorem NewRow.mono {B' : Nat} (h : NewRow B w k A n c zs) (hB : B' ≤ B) : NewRow B' w k A n c zs := ⟨h.row, fun hn => by
  obtain ⟨b, off, e, hb⟩ := h.newer hn
  exact ⟨b, off, e, by omega⟩⟩
theorem NewRow.of_own {e : TypeId} (h : w.ownsRow B e 1 (.slice A n c) n (zs.map (.int k))) (hw : ∀ n ∈ zs, (Lit.int k n).wf = true) : NewRow B w k A n c zs :=
  ⟨IntRow.of_own h hw, fun hn => by
    obtain ⟨g, e, hg, _⟩ := own_form h hn
    exact ⟨g, 0, e, hg⟩⟩
/-- The first m integers cut off, as the model spells the address behind the cut. -/
theorem NewRow.cut (h : NewRow B w k A n c zs) {m : Nat} (hm : m ≤ n) : NewRow B w k (if c = m then A else A.map (·.add m)) (n - m) (c - m) (zs.drop m) := by
  have hc := h.row.cap_le
  have hx := h.row.max
  have ha : ∀ b off, (⟨b, off, none⟩ : Addr).add m = ⟨b, off + m, none⟩ := fun b off => by unfold Addr.add; split <;> simp_all
  refine ⟨⟨by rw [List.length_drop, h.row.len_eq], by omega, by omega, fun e => ?_, fun hn => ?_, fun z hz => h.row.wf z (List.mem_of_mem_drop hz)⟩, fun hn => ?_⟩
  · split at e
    · have := h.row.nil e
      omega
    · have := h.row.nil (by cases A <;> simp_all)
      omega
  · obtain ⟨b, off, rfl, _, hb, hcell⟩ := h.block (by omega)
    rw [if_neg (by omega)]
    refine ⟨b, off + m, by rw [← ha]; rfl, hb, fun j hj => ?_⟩
    rw [Nat.add_assoc, hcell (m + j) (by omega)]
    simp [List.getD, List.getElem?_drop]
  · obtain ⟨b, off, rfl, hB, _, _⟩ := h.block (by omega)
    rw [if_neg (by omega)]
    exact ⟨b, off + m, by rw [← ha]; rfl, hB⟩
end
theorem IntRow.cut {w : World} {k : IntKind} {A : Option Addr} {n c : Nat} {zs : List Int} (h : IntRow w k A n c zs) {m : Nat} (hm : m ≤ n) :
    IntRow w k (if c = m then A else A.map (·.add m)) (n - m) (c - m) (zs.drop m) :=
  (NewRow.cut (B := 0) ⟨h, fun hn => by
    obtain ⟨b, off, e, _⟩ := h.cell hn
    exact ⟨b, off, e, Nat.zero_le _⟩⟩ hm).row
end Go.Proofs.Ytgmeakcfiaopcaa

/- Rows of elements of several cells: copied, cleared, cut, appended to; blocks known whole. Nothing here speaks of one program. -/
namespace Go.Proofs.Ytgmeakcfiaopcaa
open Go.RowKit

theorem take_splice_le {α : Type} (L : List α) (o : Nat) (cs : List α) (m : Nat) (h : m ≤ o) (ho : o ≤ L.length) : (splice L o cs).take m = L.take m := by
  unfold splice
  rw [List.take_append_of_le_length (by rw [List.length_take]; omega), List.take_take, Nat.min_eq_left h]
theorem take_splice_end {α : Type} (L : List α) (o : Nat) (cs : List α) (m : Nat) (h : m = o + cs.length) (ho : o ≤ L.length) : (splice L o cs).take m = L.take o ++ cs := by
  subst h
  unfold splice
  rw [← List.append_assoc, List.take_append_of_le_length (by simp; omega), List.take_of_length_le (by simp; omega)]
theorem splice_insert {α : Type} (L : List α) (a b m : Nat) (Y v : List α) (hv : a + v.length = b) (hb : b + Y.length ≤ L.length) (hm : m = b + Y.length) : (splice (splice L b Y) a v).take m = L.take a ++ (v ++ Y) := by
  subst hm
  subst hv
  have e1 : (splice L (a + v.length) Y).take a = L.take a := take_splice_le _ _ _ _ (by omega) (by omega)
  have e2 : (splice L (a + v.length) Y).drop (a + v.length) = Y ++ L.drop (a + v.length + Y.length) := by
    unfold splice
    rw [List.drop_append, List.drop_eq_nil_of_le (by rw [List.length_take]; omega), List.nil_append, List.length_take, Nat.min_eq_left (by omega), Nat.sub_self, List.drop_zero]
  generalize hS : splice L (a + v.length) Y = S at e1 e2
  unfold splice
  rw [e1, e2, ← List.append_assoc, ← List.append_assoc, List.take_append_of_le_length (by simp; omega), List.take_of_length_le (by simp; omega), List.append_assoc]
theorem splice_fill {α : Type} (L : List α) (a b m : Nat) (v Y : List α) (hv : a + v.length = b) (hb : b + Y.length ≤ L.length) (hm : m = b + Y.length) : (splice (splice L a v) b Y).take m = L.take a ++ (v ++ Y) := by
  rw [take_splice_end _ _ _ _ hm (by rw [length_splice _ _ _ (by omega)]; omega), take_splice_end _ _ _ _ hv.symm (by omega), List.append_assoc]

section
variable {P : Program} (w : World)
/-- Cells copied into a block that is known whole. -/
theorem run_copyK (dT sT ty elem : TypeId) (k g o dLen dCap : Nat) (ad : Addr) (sLen sCap : Nat) (cur : List Value) (t : TypeId) (cs : List Value)
    (hu : P.underlying dT = some (.slice elem)) (hs : (P.info? elem).map (·.size) = some k) (hg : Holds w g t cur.toArray) (hn : cs.length = Nat.min sLen dLen * k)
    (hsrc : ∀ j v, cs[j]? = some v → w.cell? (ad.add j) = some v) (hfit : o + cs.length ≤ cur.length) (h1 : ∀ v ∈ cs, v.oneCell' = true) :
    (Builtin.copy_ #[dT, sT] ty #[.slice (some ⟨g, o, none⟩) dLen dCap, .slice (some ad) sLen sCap]).run P w = .ok (goInt (Nat.min sLen dLen)) (w.setRow g (splice cur o cs).toArray) := by
  have hl := run_loadCells_list (P := P) w ad cs hsrc
  have hst := run_storeCells_at P g o t cs 0 cur.toArray w hg (by simpa using hfit) h1
  cases hq : P.info? elem with
  | none => simp [hq] at hs
  | some i =>
    have hi : i.size = k := by simpa [hq] using hs
    simp [Builtin.copy_, run_underlying hu, Builtin.lenOf, Builtin.firstCells, sizeOf, typeInfo, hq, hi, ← hn, hl, hst, splice]
/-- A row's cells cleared. -/
theorem run_clearK (t e ty : TypeId) (z : Value) (ht : P.underlying t = some (.slice e)) (hv : ∀ w, (zeroValue e).run P w = .ok z w) (g o n c : Nat) (hn : 0 < n) (cur : List Value) (te : TypeId)
    (hg : Holds w g te cur.toArray) (hfit : o + (Builtin.zeroCells z.cells n).size ≤ cur.length) (h1 : ∀ v ∈ (Builtin.zeroCells z.cells n).toList, v.oneCell' = true) :
    (Builtin.clear_ #[t] ty #[.slice (some ⟨g, o, none⟩) n c]).run P w = .ok (.tuple #[]) (w.setRow g (splice cur o (Builtin.zeroCells z.cells n).toList).toArray) := by
  have hst := run_storeCells_at P g o te (Builtin.zeroCells z.cells n).toList 0 cur.toArray w hg (by simpa using hfit) h1
  obtain ⟨m, rfl⟩ : ∃ m, n = m + 1 := ⟨n - 1, by omega⟩
  simp only [Nat.add_zero] at hst
  simp [Builtin.clear_, run_underlying ht, hv, hst, splice]
theorem zeros_two (x : Value) (n : Nat) : ∀ v ∈ (Builtin.zeroCells #[x, x] n).toList, v = x := by
  intro v hv
  simp [Builtin.zeroCells] at hv
  obtain ⟨a, _, rfl⟩ := hv
  have : a % 2 = 0 ∨ a % 2 = 1 := by omega
  rcases this with h | h <;> simp [h]
end

section
variable {w w' : World} {g : Nat} {t : TypeId} {cs : Array Value}
theorem Holds.row (h : Holds w g t cs) (cs' : Array Value) : Holds (w.setRow g cs') g t cs' := setRow_heap w g cs cs' t (0, 0) h
theorem grown_row (w : World) (g : Nat) (cs : Array Value) : w.grownBy (w.setRow g cs) (some g) := ⟨rfl, rfl, rfl, by simp, fun k _ hk => setRow_other w g k cs (fun e => hk (by rw [e]))⟩
/-- A row that a block holds. -/
theorem own_mk {B k n cap : Nat} {cur xs : List Value} (h : Holds w g t cur.toArray) (hB : B ≤ g) (hn : n ≤ cap) (hc : cap ≤ maxLen) (hl : cur.length = cap * k) (hx : cur.take (n * k) = xs) :
    w.ownsRow B t k (.slice (some ⟨g, 0, none⟩) n cap) n xs :=
  ⟨by rw [← hx, List.length_take, hl, Nat.min_eq_left (Nat.mul_le_mul_right _ hn)], .inr ⟨g, cap, cur.toArray, rfl, hB, h, hn, hc, by simpa using hl, by simpa using hx⟩⟩
theorem own_open {B k n : Nat} {v : Value} {e : TypeId} {xs : List Value} (h : w.ownsRow B e k v n xs) :
    (v = .slice none 0 0 ∧ n = 0 ∧ xs = []) ∨ ∃ g cap, ∃ cur : List Value, v = .slice (some ⟨g, 0, none⟩) n cap ∧ B ≤ g ∧ Holds w g e cur.toArray ∧ n ≤ cap ∧ cap ≤ maxLen ∧ cur.length = cap * k ∧ cur.take (n * k) = xs := by
  rcases h.2 with ⟨rfl, rfl⟩ | ⟨g, cap, cur, rfl, hB, hg, hn, hc, hs, hx⟩
  · exact .inl ⟨rfl, rfl, List.eq_nil_of_length_eq_zero (by simpa using h.1)⟩
  · exact .inr ⟨g, cap, cur.toList, rfl, hB, (show w.heap[g]? = _ by simpa using hg), hn, hc, by simpa using hs, hx⟩
end

section
variable {P : Program}
/-- A builtin whose run is known, as one step of a region that draws its order; and in a walk. -/
theorem step_copy_known {w : World} {ops : Array Oper} {o : Oper} {a : Act} {K : Act → World → Prop} {Q : Exit → Act → World → Prop} {E : Prop}
    (hg : o.guard = none) (d x : Operand) (dT sT : TypeId) (hop : o.op = Op.call { callee := Callee.builtin Builtin.copy, args := #[d, x], argTypes := #[dT, sT] })
    (v u : Value) (hd : a.eval d = v) (hx : a.eval x = u) {v' : Value} {w' : World} (hr : (Builtin.copy_ #[dT, sT] o.type #[v, u]).run P w = .ok v' w') (hK : K (a.put o.dst v') w') :
    if Region.wanted o (yielded ops a.tmps) = true then Oper.wp P o a w K Q else E := by
  have hw : Region.wanted o (yielded ops a.tmps) = true := by simp [Region.wanted, hg]
  rw [if_pos hw]
  unfold Oper.wp
  simp [execOp, hop, resolve, invoke, builtin, hd, hx, hr, Result.andThen]
  exact hK
theorem wpList_copy_known (w : World) {ops : Array Oper} {rest : List Oper} {o : Oper} {a : Act} {Q : Exit → Act → World → Prop} (hgd : o.guard = none) (d s : Operand) (t t' : TypeId)
    (ho : o.op = .call { callee := .builtin .copy, args := #[d, s], argTypes := #[t, t'] }) (v u : Value) (hd : a.eval d = v) (hs : a.eval s = u) {v' : Value} {w' : World}
    (hr : (Builtin.copy_ #[t, t'] o.type #[v, u]).run P w = .ok v' w') (h : wpList P ops Q rest (a.put o.dst v') w') : wpList P ops Q (o :: rest) a w := by
  refine wpList_plain hgd fun K hK => ?_
  unfold Oper.wp execOp
  simp only [ho, resolve, invoke, builtin, Sem.run_bind, Sem.run_pure, Result.andThen_ok, List.map_toArray, List.map_cons, List.map_nil, hd, hs, hr]
  exact hK _ _ h
theorem step_append_known {w : World} {ops : Array Oper} {o : Oper} {a : Act} {K : Act → World → Prop} {Q : Exit → Act → World → Prop} {E : Prop}
    (hg : o.guard = none) (d x : Operand) (dT sT : TypeId) (hop : o.op = Op.call { callee := Callee.builtin Builtin.append, args := #[d, x], argTypes := #[dT, sT] })
    (v u : Value) (hd : a.eval d = v) (hx : a.eval x = u) {v' : Value} {w' : World} (hr : (Builtin.append_ #[dT, sT] o.type #[v, u]).run P w = .ok v' w') (hK : K (a.put o.dst v') w') :
    if Region.wanted o (yielded ops a.tmps) = true then Oper.wp P o a w K Q else E := by
  have hw : Region.wanted o (yielded ops a.tmps) = true := by simp [Region.wanted, hg]
  rw [if_pos hw]
  unfold Oper.wp
  simp [execOp, hop, resolve, invoke, builtin, hd, hx, hr, Result.andThen]
  exact hK
end

section
variable {P : Program} (w : World)
theorem own_shape {w : World} {B k n : Nat} {e : TypeId} {v : Value} {xs : List Value} (h : w.ownsRow B e k v n xs) : ∃ A c, v = .slice A n c := by
  rcases own_open h with ⟨rfl, rfl, _⟩ | ⟨g, cap, cur, rfl, _⟩
  · exact ⟨_, _, rfl⟩
  · exact ⟨_, _, rfl⟩
/-- A row of elements appended to a row of the call's own: in place, or to a new one. -/
theorem run_append_rowK (B : Nat) (t ty e : TypeId) (i : TypeInfo) (z : Value) (k bytes : Nat) (ht : P.underlying t = some (.slice e)) (hi : P.info? e = some i) (hz : i.zero = some z)
    (hsize : i.size = k) (hby : i.bytes = bytes) (hzs : z.cells.size = k) (hk : 0 < k) (v : Value) (n : Nat) (xs : List Value) (hown : w.ownsRow B e k v n xs)
    (ad : Addr) (m c : Nat) (news : List Value) (hl : news.length = m * k) (hnews : ∀ j u, news[j]? = some u → w.cell? (ad.add j) = some u) (h1 : ∀ u ∈ news, u.oneCell' = true)
    (h63 : n + m ≤ maxLen) (hbytes : (n + m) * bytes ≤ 140737488355328) (hbase : B ≤ w.heap.size) :
    ∃ A' c' w', (Builtin.append_ #[t, t] ty #[v, .slice (some ad) m c]).run P w = .ok (.slice A' (n + m) c') w' ∧ w'.ownsRow B e k (.slice A' (n + m) c') (n + m) (xs ++ news) ∧ w.grownBy w' v.ownBlock ∧
      ∀ q, (Value.slice A' (n + m) c').ownBlock = some q → v.ownBlock = some q ∨ w.heap.size ≤ q := by
  rcases own_open hown with ⟨rfl, rfl, rfl⟩ | ⟨g, cap, cur, rfl, hB, hH, hnc, hcm, hcl, hct⟩
  · obtain ⟨v', w', hr, h2, h3, _⟩ := run_append_own (P := P) w w.heap.size t ty e i z k bytes ht hi hz hsize hby hzs hk (.slice none 0 0) 0 [] (World.ownsRow_nil _ _ _ _) ad m c news hl hnews h1 h63 hbytes (Nat.le_refl _)
    obtain ⟨A', c', rfl⟩ := own_shape h2
    refine ⟨A', c', w', hr, ⟨h2.1, ?_⟩, h3, fun q hq => .inr (h2.lt q hq).1⟩
    rcases h2.2 with h | ⟨g, cap, cur, he, hg, r⟩
    · exact .inl h
    · exact .inr ⟨g, cap, cur, he, Nat.le_trans hbase hg, r⟩
  · have hH' : w.heap[g]? = _ := hH
    by_cases hroom : n + m ≤ cap
    · subst hsize
      have hm : n * i.size + news.length ≤ cur.length := by rw [hl, hcl, ← Nat.add_mul]; exact Nat.mul_le_mul_right _ hroom
      have hr := run_append_room (P := P) w t ty e i ht hi g n cap cur.toArray hH' ad m c news hl hnews h1 hroom (by simpa using hm)
      refine ⟨some ⟨g, 0, none⟩, cap, _, hr, ?_, grown_row w g _, fun q hq => .inl hq⟩
      refine own_mk (hH.row _) hB hroom hcm (by simp; omega) ?_
      have e : (n + m) * i.size = (cur.take (n * i.size) ++ news).length := by rw [List.length_append, List.length_take, hl, Nat.min_eq_left (by omega), Nat.add_mul]
      simp only [hct] at *
      rw [e, List.take_left]
    · have hxl : xs.length = n * k := hown.1
      obtain ⟨v', w', hr, h2, h3⟩ := run_append_arg_grows (P := P) w t ty e i z k bytes ht hi hz hsize hby hzs hk ⟨g, 0, none⟩ n cap xs hxl (hown.cells (g := g) rfl) ad m c news hl hnews (by omega) h63 hbytes
      obtain ⟨A', c', rfl⟩ := own_shape h2
      refine ⟨A', c', w', hr, ⟨h2.1, ?_⟩, ⟨h3.os, h3.tape, h3.output, h3.size, fun q hq _ => h3.block q hq (by simp)⟩, fun q hq => .inr (h2.lt q hq).1⟩
      rcases h2.2 with h | ⟨g', cap', cur', he, hg, r⟩
      · exact .inl h
      · exact .inr ⟨g', cap', cur', he, Nat.le_trans hbase hg, r⟩
/-- As run_append_rowK, in a walk. -/
theorem wpList_append_rowK {ops : Array Oper} {rest : List Oper} {o : Oper} {a : Act} {Q : Exit → Act → World → Prop} (hgd : o.guard = none) (s x : Operand) (t : TypeId)
    (ho : o.op = .call { callee := .builtin .append, args := #[s, x], argTypes := #[t, t] })
    (B : Nat) (e : TypeId) (i : TypeInfo) (z : Value) (k bytes : Nat) (ht : P.underlying t = some (.slice e)) (hi : P.info? e = some i) (hz : i.zero = some z)
    (hsize : i.size = k) (hby : i.bytes = bytes) (hzs : z.cells.size = k) (hk : 0 < k) (v : Value) (n : Nat) (xs : List Value) (hs : a.eval s = v) (hown : w.ownsRow B e k v n xs)
    (ad : Addr) (m c : Nat) (news : List Value) (hx : a.eval x = .slice (some ad) m c) (hl : news.length = m * k) (hnews : ∀ j u, news[j]? = some u → w.cell? (ad.add j) = some u) (h1 : ∀ u ∈ news, u.oneCell' = true)
    (h63 : n + m ≤ maxLen) (hbytes : (n + m) * bytes ≤ 140737488355328) (hbase : B ≤ w.heap.size)
    (h : ∀ A' c' w', w'.ownsRow B e k (.slice A' (n + m) c') (n + m) (xs ++ news) → w.grownBy w' v.ownBlock → (∀ q, (Value.slice A' (n + m) c').ownBlock = some q → v.ownBlock = some q ∨ w.heap.size ≤ q) → wpList P ops Q rest (a.put o.dst (.slice A' (n + m) c')) w') :
    wpList P ops Q (o :: rest) a w := by
  refine wpList_plain hgd fun K hK => ?_
  obtain ⟨A', c', w', hrun, h2, h3, h4⟩ := run_append_rowK (P := P) w B t o.type e i z k bytes ht hi hz hsize hby hzs hk v n xs hown ad m c news hl hnews h1 h63 hbytes hbase
  unfold Oper.wp execOp
  simp only [ho, resolve, invoke, builtin, Sem.run_bind, Sem.run_pure, Result.andThen_ok, List.map_toArray, List.map_cons, List.map_nil, hs, hx, hrun]
  exact hK _ _ (h A' c' w' h2 h3 h4)
end
end Go.Proofs.Ytgmeakcfiaopcaa

/- What a call may change: the blocks of one object. Nothing here speaks of one program. -/
namespace Go.Proofs.Ytgmeakcfiaopcaa
open Go.RowKit

/-- Of what was there nothing changed but blocks that meet S. -/
structure Chg (S : Nat → Prop) (w w' : World) : Prop where
  os : w'.os = w.os
  tape : w'.tape = w.tape
  output : w'.output = w.output
  size : w.heap.size ≤ w'.heap.size
  block : ∀ k, k < w.heap.size → ¬ S k → w'.heap[k]? = w.heap[k]?

section
variable {S S' : Nat → Prop} {w w' u : World} {B : Nat}
theorem Chg.refl (S : Nat → Prop) (w : World) : Chg S w w := ⟨rfl, rfl, rfl, Nat.le_refl _, fun _ _ _ => rfl⟩
theorem Chg.of_below (S : Nat → Prop) (h : Below w.heap.size w w') : Chg S w w' := ⟨h.os, h.tape, h.output, h.size, fun k hk _ => h.block k hk⟩
theorem Chg.of_grown {row : Option Nat} (h : w.grownBy w' row) (hr : ∀ k, row = some k → S k) : Chg S w w' := ⟨h.os, h.tape, h.output, h.size, fun k hk hn => h.block k hk (fun e => hn (hr k e.symm))⟩
theorem Chg.set (w : World) (g i : Nat) (u : Value) (hS : S g) : Chg S w (w.setCell ⟨g, i, none⟩ u) := Chg.of_grown (grown_set w g i u) (fun k e => by cases e; exact hS)
theorem Chg.trans (h : Chg S w u) (h' : Chg S' u w') (hs : ∀ k, k < w.heap.size → S' k → S k) : Chg S w w' :=
  ⟨h'.os.trans h.os, h'.tape.trans h.tape, h'.output.trans h.output, Nat.le_trans h.size h'.size, fun k hk hn => (h'.block k (Nat.lt_of_lt_of_le hk h.size) (fun e => hn (hs k hk e))).trans (h.block k hk hn)⟩
theorem Chg.mono (h : Chg S w w') (hs : ∀ k, k < w.heap.size → S k → S' k) : Chg S' w w' := ⟨h.os, h.tape, h.output, h.size, fun k hk hn => h.block k hk (fun e => hn (hs k hk e))⟩
theorem Chg.drewN (h : Chg S w w') (n : Nat) : Chg S w (w'.drewN n) := ⟨h.os, h.tape, h.output, h.size, h.block⟩
theorem Below.chg {a : World} (h : Below B a w) (hc : Chg S w w') (hB : B ≤ w.heap.size) (hS : ∀ k, S k → B ≤ k) : Below B a w' :=
  h.trans ⟨hc.os, hc.tape, hc.output, hc.size, fun k hk => hc.block k (by omega) (fun e => by have := hS k e; omega)⟩
theorem Chg.cell (h : Chg S w w') {b o : Nat} (hb : b < w.heap.size) (hn : ¬ S b) : w'.cell? ⟨b, o, none⟩ = w.cell? ⟨b, o, none⟩ := World.cell?_of_block (w := w) (h.block b hb hn)
theorem Chg.frozen (h : Chg S w w') {b o : Nat} (hb : b < w.heap.size) (hn : ¬ S b) : w'.frozen? ⟨b, o, none⟩ = w.frozen? ⟨b, o, none⟩ := World.frozen?_of_block (w := w) (h.block b hb hn)
theorem Holds.chg {g : Nat} {t : TypeId} {cs : Array Value} (h : Holds w g t cs) (hc : Chg S w w') (hn : ¬ S g) : Holds w' g t cs := (hc.block g h.lt hn).trans h
theorem own_chg {e : TypeId} {k n : Nat} {v : Value} {xs : List Value} (h : w.ownsRow B e k v n xs) (hc : Chg S w w') (hn : ∀ q, v.ownBlock = some q → ¬ S q) : w'.ownsRow B e k v n xs := by
  refine ⟨h.1, ?_⟩
  rcases h.2 with h2 | ⟨g, cap, cur, rfl, hB, hg, r⟩
  · exact .inl h2
  · exact .inr ⟨g, cap, cur, rfl, hB, (hc.block g (Array.getElem?_eq_some_iff.1 hg).1 (hn g rfl)).trans hg, r⟩
/-- Two rows of elements of other types lie in two blocks. -/
theorem own_own {B B' : Nat} {e e' : TypeId} {k k' n n' : Nat} {v v' : Value} {xs xs' : List Value} (h : w.ownsRow B e k v n xs) (h' : w.ownsRow B' e' k' v' n' xs') (hne : e ≠ e') {q : Nat} (hq : v.ownBlock = some q) : v'.ownBlock ≠ some q := by
  rcases own_open h with ⟨rfl, _⟩ | ⟨g, cap, cur, rfl, _, hH, _⟩
  · simp [Value.ownBlock] at hq
  · simp [Value.ownBlock] at hq
    subst hq
    exact hH.own_apart h' (Ne.symm hne)
theorem own_up {B B' : Nat} {e : TypeId} {k n : Nat} {v : Value} {xs : List Value} (h : w.ownsRow B e k v n xs) (hB : ∀ q, v.ownBlock = some q → B' ≤ q) : w.ownsRow B' e k v n xs := by
  refine ⟨h.1, ?_⟩
  rcases h.2 with h2 | ⟨g, cap, cur, rfl, _, hg, r⟩
  · exact .inl h2
  · exact .inr ⟨g, cap, cur, rfl, hB g rfl, hg, r⟩
end
end Go.Proofs.Ytgmeakcfiaopcaa

/- Rows of three integers each, as cells; cells loaded and stored at a place within a block. Nothing here speaks of one program. -/
namespace Go.Proofs.Ytgmeakcfiaopcaa
open Go.RowKit

abbrev Ent := Int × Int × Int
/-- The cells of entries, one behind the other. -/
def trs (L : List Ent) : List Value := L.flatMap fun e => [.int .i64 e.1, .int .i64 e.2.1, .int .i64 e.2.2]
theorem trs_nil : trs [] = [] := rfl
theorem trs_cons (e : Ent) (L : List Ent) : trs (e :: L) = .int .i64 e.1 :: .int .i64 e.2.1 :: .int .i64 e.2.2 :: trs L := rfl
theorem trs_append (L M : List Ent) : trs (L ++ M) = trs L ++ trs M := by simp [trs]
theorem trs_len : ∀ L : List Ent, (trs L).length = L.length * 3
  | [] => rfl
  | e :: L => by rw [trs_cons]; simp [trs_len L]; omega
theorem trs_take : ∀ (L : List Ent) (i : Nat), (trs L).take (i * 3) = trs (L.take i)
  | [], _ => by simp [trs_nil]
  | _ :: _, 0 => by simp [trs_nil]
  | e :: L, i + 1 => by rw [List.take_succ_cons, trs_cons, trs_cons, ← trs_take L i, show (i + 1) * 3 = i * 3 + 1 + 1 + 1 by omega, List.take_succ_cons, List.take_succ_cons, List.take_succ_cons]
theorem trs_drop : ∀ (L : List Ent) (i : Nat), (trs L).drop (i * 3) = trs (L.drop i)
  | [], _ => by simp [trs_nil]
  | _ :: _, 0 => by simp
  | e :: L, i + 1 => by rw [List.drop_succ_cons, trs_cons, ← trs_drop L i, show (i + 1) * 3 = i * 3 + 1 + 1 + 1 by omega, List.drop_succ_cons, List.drop_succ_cons, List.drop_succ_cons]
theorem trs_get : ∀ (L : List Ent) (i : Nat) (e : Ent), L[i]? = some e → (trs L)[i * 3]? = some (.int .i64 e.1) ∧ (trs L)[i * 3 + 1]? = some (.int .i64 e.2.1) ∧ (trs L)[i * 3 + 2]? = some (.int .i64 e.2.2)
  | x :: L, 0, e, h => by
    simp only [List.getElem?_cons_zero, Option.some.injEq] at h
    subst h
    exact ⟨rfl, rfl, rfl⟩
  | x :: L, i + 1, e, h => by
    have := trs_get L i e (by simpa using h)
    rw [trs_cons, show (i + 1) * 3 = i * 3 + 1 + 1 + 1 by omega]
    simpa using this
theorem trs_set : ∀ (L : List Ent) (i : Nat) (e : Ent), i < L.length → trs (L.set i e) = (((trs L).set (i * 3) (.int .i64 e.1)).set (i * 3 + 1) (.int .i64 e.2.1)).set (i * 3 + 2) (.int .i64 e.2.2)
  | x :: L, 0, e, _ => rfl
  | x :: L, i + 1, e, h => by
    rw [List.set_cons_succ, trs_cons, trs_cons, trs_set L i e (by simpa using h), show (i + 1) * 3 = i * 3 + 1 + 1 + 1 by omega]
    rfl
theorem trs_one (L : List Ent) : ∀ v ∈ trs L, v.oneCell' = true := by
  intro v hv
  simp [trs] at hv
  obtain ⟨a, b, c, _, rfl | rfl | rfl⟩ := hv <;> rfl

theorem own_keep' {w w' : World} {B : Nat} {e : TypeId} {v : Value} {m k : Nat} {xs : List Value} (h : w.ownsRow B e k v m xs) (hb : Below w.heap.size w w') : w'.ownsRow B e k v m xs :=
  own_chg h (Chg.of_below (fun _ => False) hb) (fun _ _ h => h)
section
variable {P : Program}
/-- A struct's cells, loaded from a place within a block. -/
theorem run_loadVar_at (w : World) (g o : Nat) (t ty : TypeId) (cur : Array Value) (cs : List Value) (d : TypeDesc) (hg : Holds w g t cur) (hcs : ∀ j v, cs[j]? = some v → cur[o + j]? = some v)
    (hu : P.underlying ty = some d) (hd : (match d with | .struct _ | .array _ _ => true | _ => false) = true) (hi : (P.info? ty).map (·.size) = some cs.length) :
    (loadVar ty ⟨g, o, none⟩).run P w = .ok (.agg cs.toArray) w := by
  have hl : (loadCells ⟨g, o, none⟩ cs.length).run P w = .ok cs.toArray w :=
    run_loadCells_list (P := P) w ⟨g, o, none⟩ cs (fun j v hv => by
      have hadd : (⟨g, o, none⟩ : Addr).add j = ⟨g, o + j, none⟩ := by unfold Addr.add; split <;> simp_all
      rw [hadd, hg.cell]
      exact hcs j v hv)
  cases hq : P.info? ty with
  | none => simp [hq] at hi
  | some i =>
    have hs : i.size = cs.length := by simpa [hq] using hi
    have hagg : (isAgg ty).run P w = .ok true w := by
      unfold isAgg
      rw [Sem.run_bind, run_underlying hu w]
      cases d <;> simp_all
    simp [loadVar, Sem.run_bind, hagg, sizeOf, typeInfo, hq, hs, hl]
theorem wpList_load_at {ops : Array Oper} {rest : List Oper} {o : Oper} {a : Act} {w : World} {Q : Exit → Act → World → Prop} (hgd : o.guard = none) (ty : TypeId) (x : Operand) (ho : o.op = .load ty x)
    (g off : Nat) (hx : a.eval x = .pointer (some ⟨g, off, none⟩)) (t : TypeId) (cur : Array Value) (cs : List Value) (d : TypeDesc) (hg : Holds w g t cur) (hcs : ∀ j v, cs[j]? = some v → cur[off + j]? = some v)
    (hu : P.underlying ty = some d) (hd : (match d with | .struct _ | .array _ _ => true | _ => false) = true) (hi : (P.info? ty).map (·.size) = some cs.length)
    (h : wpList P ops Q rest (a.put o.dst (.agg cs.toArray)) w) : wpList P ops Q (o :: rest) a w :=
  wpList_plain hgd fun _ hK => by
    unfold Oper.wp execOp
    simp only [ho, hx, Instr.loadAt, Instr.sureAddr, Sem.run_bind, Sem.run_pure, Result.andThen_ok, run_loadVar_at w g off t ty cur cs d hg hcs hu hd hi]
    exact hK _ _ h
/-- A struct's cells, stored at a place within a block. -/
theorem run_storeVar_at (w : World) (g o : Nat) (t ty : TypeId) (cur cells : List Value) (hg : Holds w g t cur.toArray) (hi : (P.info? ty).map (·.size) = some cells.length)
    (ho : o + cells.length ≤ cur.length) (h1 : ∀ v ∈ cells, v.oneCell' = true) :
    (storeVar ty ⟨g, o, none⟩ (.agg cells.toArray)).run P w = .ok () (w.setRow g (splice cur o cells).toArray) := by
  have := run_storeCells_at P g o t cells 0 cur.toArray w hg (by simpa using ho) h1
  cases hq : P.info? ty with
  | none => simp [hq] at hi
  | some i =>
    have hs : cells.length = i.size := by simp [hq] at hi; omega
    simp [storeVar, sizeOf, typeInfo, hq, Value.cells, hs, this, splice]
theorem wpList_store_at {ops : Array Oper} {rest : List Oper} {o : Oper} {a : Act} {w : World} {Q : Exit → Act → World → Prop} (hgd : o.guard = none) (ty : TypeId) (x y : Operand) (ho : o.op = .store ty x y)
    (g off : Nat) (cells : List Value) (hx : a.eval x = .pointer (some ⟨g, off, none⟩)) (hy : a.eval y = .agg cells.toArray)
    (t : TypeId) (cur : List Value) (hg : Holds w g t cur.toArray) (hi : (P.info? ty).map (·.size) = some cells.length)
    (hfit : off + cells.length ≤ cur.length) (h1 : ∀ v ∈ cells, v.oneCell' = true)
    (h : wpList P ops Q rest (a.put o.dst undef) (w.setRow g (splice cur off cells).toArray)) : wpList P ops Q (o :: rest) a w :=
  wpList_plain hgd fun _ hK => by
    unfold Oper.wp execOp
    simp only [ho, hx, hy, Instr.storeAt, Instr.sureAddr, Sem.run_bind, Sem.run_pure, Result.andThen_ok, run_storeVar_at w g off t ty cur cells hg hi hfit h1]
    exact hK _ _ h
/-- As one step of a region that draws its order. -/
theorem wp_store_at {o : Oper} {a : Act} {w : World} {K : Act → World → Prop} {Q : Exit → Act → World → Prop} (ty : TypeId) (x y : Operand) (ho : o.op = .store ty x y)
    (g off : Nat) (cells : List Value) (hx : a.eval x = .pointer (some ⟨g, off, none⟩)) (hy : a.eval y = .agg cells.toArray)
    (t : TypeId) (cur : List Value) (hg : Holds w g t cur.toArray) (hi : (P.info? ty).map (·.size) = some cells.length)
    (hfit : off + cells.length ≤ cur.length) (h1 : ∀ v ∈ cells, v.oneCell' = true)
    (h : K (a.put o.dst undef) (w.setRow g (splice cur off cells).toArray)) : Oper.wp P o a w K Q := by
  unfold Oper.wp execOp
  simp only [ho, hx, hy, Instr.storeAt, Instr.sureAddr, Sem.run_bind, Sem.run_pure, Result.andThen_ok, run_storeVar_at w g off t ty cur cells hg hi hfit h1]
  exact h
end

/-- What a call answers whose first result lies in a cell of its own. -/
theorem results_row_tmp {P : Program} {fn : Func} {p u : Tmp} {ty : TypeId} (h : fn.results = #[.cell p ty, .tmp u]) (tmps : Array Value) (w : World) (g : Nat) (t : TypeId) (cs : List Value) (d : TypeDesc) (v : Value)
    (hp : tmps.getD p undef = .pointer (some ⟨g, 0, none⟩)) (hg : Holds w g t cs.toArray) (hu : P.underlying ty = some d) (hd : (match d with | .struct _ | .array _ _ => true | _ => false) = true) (hi : (P.info? ty).map (·.size) = some cs.length)
    (hv : tmps.getD u undef = v) : (results fn tmps).run P w = .ok (.tuple #[.agg cs.toArray, v]) w := by
  have hp' : tmps[p]?.getD undef = .pointer (some ⟨g, 0, none⟩) := by simpa using hp
  have hv' : tmps[u]?.getD undef = v := by simpa using hv
  have hl := run_loadVar_at (P := P) w g 0 t ty cs.toArray cs d hg (fun j v hv => by simpa using hv) hu hd hi
  simp [results, h, hp', hv', asAddr, hl]

theorem splice_all {α : Type} (cur new : List α) (h : new.length = cur.length) : splice cur 0 new = new := by
  unfold splice
  rw [List.take_zero, List.nil_append, Nat.zero_add, List.drop_eq_nil_of_le (by omega), List.append_nil]
theorem splice_mid {α : Type} (pre mid post new : List α) (i : Nat) (h : i + new.length ≤ mid.length) : splice (pre ++ (mid ++ post)) (pre.length + i) new = pre ++ (splice mid i new ++ post) := by
  unfold splice
  rw [List.take_append, List.take_of_length_le (by omega), show pre.length + i - pre.length = i by omega, List.take_append_of_le_length (by omega), List.append_assoc, List.append_assoc, List.append_assoc]
  congr 2
  rw [List.drop_append, List.drop_eq_nil_of_le (by omega), List.nil_append, show pre.length + i + new.length - pre.length = i + new.length by omega, List.drop_append_of_le_length (by omega)]
theorem set_mid {α : Type} (pre mid post : List α) (i : Nat) (x : α) (h : i < mid.length) : (pre ++ (mid ++ post)).set (pre.length + i) x = pre ++ (mid.set i x ++ post) := by
  rw [List.set_append_right _ _ (by omega), show pre.length + i - pre.length = i by omega, List.set_append_left _ _ h]
theorem get_mid {α : Type} (pre mid post : List α) (i : Nat) (h : i < mid.length) : (pre ++ (mid ++ post))[pre.length + i]? = mid[i]? := by
  rw [List.getElem?_append_right (by omega), show pre.length + i - pre.length = i by omega, List.getElem?_append_left h]

/-- An empty table's cells. -/
def zeroT : List Value := trs (List.replicate 8 (0, 0, 0)) ++ [Value.int .i64 0]
theorem zeroT_one : ∀ v ∈ zeroT, v.oneCell' = true := by decide +kernel
/-- A table's cells (eight places, and how many there are), behind the cells pre and ahead of the cells post. -/
def tcs (pre post : List Value) (K : List Ent) (n : Int) : List Value := pre ++ ((trs K ++ [Value.int .i64 n]) ++ post)
section
variable {pre post : List Value} {K : List Ent} {n : Int} {o : Nat}
theorem tcs_len (hK : K.length = 8) (ho : pre.length = o) : (tcs pre post K n).length = o + 25 + post.length := by
  unfold tcs
  rw [List.length_append, List.length_append, List.length_append, trs_len, hK, ho, List.length_singleton]
  omega
theorem tcs_mid (hK : K.length = 8) : (trs K ++ [Value.int .i64 n]).length = 25 := by rw [List.length_append, trs_len, hK]; rfl
theorem tcs_num (hK : K.length = 8) (ho : pre.length = o) : (tcs pre post K n)[o + 24]? = some (.int .i64 n) := by
  have hm := tcs_mid (n := n) hK
  unfold tcs
  rw [← ho, get_mid _ _ _ _ (by omega), List.getElem?_append_right (by rw [trs_len]; omega), trs_len, hK]
  rfl
theorem tcs_at (hK : K.length = 8) (ho : pre.length = o) {i : Nat} (hi : i < 24) : (tcs pre post K n)[o + i]? = (trs K)[i]? := by
  have hm := tcs_mid (n := n) hK
  unfold tcs
  rw [← ho, get_mid _ _ _ _ (by omega), List.getElem?_append_left (by rw [trs_len]; omega)]
theorem tcs_count (hK : K.length = 8) (ho : pre.length = o) (m : Int) : (tcs pre post K n).toArray.setIfInBounds (o + 24) (.int .i64 m) = (tcs pre post K m).toArray := by
  have hm := tcs_mid (n := n) hK
  unfold tcs
  rw [← ho, List.setIfInBounds_toArray, set_mid _ _ _ _ _ (by omega), List.set_append_right _ _ (by rw [trs_len]; omega), trs_len, hK]
  rfl
theorem tcs_put (hK : K.length = 8) (ho : pre.length = o) {i : Nat} (hi : i < 8) (e : Ent) : splice (tcs pre post K n) (o + i * 3) [.int .i64 e.1, .int .i64 e.2.1, .int .i64 e.2.2] = tcs pre post (K.set i e) n := by
  have hm := tcs_mid (n := n) hK
  unfold tcs
  rw [← ho, splice_mid _ _ _ _ _ (by rw [hm]; simp; omega)]
  congr 2
  have h1 : K.set i e = K.take i ++ e :: K.drop (i + 1) := by rw [List.set_eq_take_append_cons_drop, if_pos (by omega)]
  have hl : i * 3 ≤ (trs K).length := by rw [trs_len, hK]; omega
  rw [h1, trs_append, trs_cons, ← trs_take, ← trs_drop]
  unfold splice
  rw [List.take_append_of_le_length hl, List.drop_append_of_le_length (by rw [trs_len, hK]; simp; omega), show (i + 1) * 3 = i * 3 + 3 by omega]
  simp
theorem tcs_copy (hK : K.length = 8) (ho : pre.length = o) (x : Ent) (hx : K.drop 7 = [x]) : splice (tcs pre post K n) o (trs (K.drop 1)) = tcs pre post (K.drop 1 ++ [x]) n := by
  have hm := tcs_mid (n := n) hK
  have hs := splice_mid pre (trs K ++ [Value.int .i64 n]) post (trs (K.drop 1)) 0 (by rw [hm, trs_len, List.length_drop]; omega)
  rw [Nat.add_zero, ho] at hs
  unfold tcs
  rw [hs]
  congr 2
  unfold splice
  rw [List.take_zero, List.nil_append, trs_append, List.append_assoc]
  congr 1
  have hl : (trs (K.drop 1)).length = 7 * 3 := by rw [trs_len, List.length_drop, hK]
  rw [hl, Nat.zero_add, List.drop_append_of_le_length (by rw [trs_len, hK]; omega), trs_drop, hx]
theorem tcs_zero (hK : K.length = 8) (ho : pre.length = o) (K' : List Ent) (hK' : K'.length = 8) (m : Int) : splice (tcs pre post K n) o (trs K' ++ [Value.int .i64 m]) = tcs pre post K' m := by
  have hm := tcs_mid (n := n) hK
  have hm' := tcs_mid (n := m) hK'
  have hs := splice_mid pre (trs K ++ [Value.int .i64 n]) post (trs K' ++ [Value.int .i64 m]) 0 (by omega)
  rw [Nat.add_zero, ho, splice_all _ _ (by omega)] at hs
  exact hs
end
end Go.Proofs.Ytgmeakcfiaopcaa

/- While a block's cells are written. Nothing here speaks of one program. -/
namespace Go.Proofs.Ytgmeakcfiaopcaa
open Go.RowKit
/-- While a block's cells are written: nothing else is. -/
structure Wp (w0 : World) (g : Nat) (t : TypeId) (cs : Array Value) (w : World) : Prop where
  node : Holds w g t cs
  chg : Chg (fun k => k = g) w0 w
section
variable {w0 w w' : World} {g : Nat} {t : TypeId} {cs : Array Value}
theorem Wp.start (h : Holds w0 g t cs) : Wp w0 g t cs w0 := ⟨h, Chg.refl _ _⟩
theorem Wp.put (h : Wp w0 g t cs w) (i : Nat) (u : Value) : Wp w0 g t (cs.setIfInBounds i u) (w.setCell ⟨g, i, none⟩ u) :=
  ⟨h.node.put i u, h.chg.trans (Chg.set (S := fun k => k = g) w g i u rfl) (fun _ _ e => e)⟩
theorem Wp.row (h : Wp w0 g t cs w) (l : List Value) : Wp w0 g t l.toArray (w.setRow g l.toArray) :=
  ⟨h.node.row l.toArray, h.chg.trans (Chg.of_grown (grown_row w g l.toArray) (S := fun k => k = g) (fun k e => by cases e; rfl)) (fun _ _ e => e)⟩
theorem Wp.drewN (h : Wp w0 g t cs w) (n : Nat) : Wp w0 g t cs (w.drewN n) := ⟨h.node.drewN n, h.chg.drewN n⟩
end
theorem Wp.to {w0 w : World} {g : Nat} {t : TypeId} {cs cs' : Array Value} (h : Wp w0 g t cs w) (e : cs = cs') : Wp w0 g t cs' w := e ▸ h
theorem one_ints3 (a b c : Int) : ∀ v ∈ ([.int .i64 a, .int .i64 b, .int .i64 c] : List Value), v.oneCell' = true := by
  intro v hv
  simp only [List.mem_cons, List.not_mem_nil, or_false] at hv
  rcases hv with rfl | rfl | rfl <;> rfl
end Go.Proofs.Ytgmeakcfiaopcaa

/- A parameter that is a struct by value lies in a block of the call's own (Op.box): it is known whole from the call's begin to its end. Nothing here speaks of one program. -/
namespace Go.Proofs.Ytgmeakcfiaopcaa
open Go.RowKit

/-- What was boxed as the call began (at block w0.heap.size) lies there still, and nothing older was changed. -/
structure Box (w0 : World) (t : TypeId) (cs : Array Value) (w : World) : Prop where
  holds : Holds w w0.heap.size t cs
  below : Below w0.heap.size w0 w
section
variable {w0 w w' : World} {t : TypeId} {cs : Array Value}
theorem Box.start (w0 : World) (t : TypeId) (cs : Array Value) : Box w0 t cs (w0.alloc (.cells cs t)) := ⟨Holds.new _ _ _, below_alloc _ _⟩
theorem Box.lt (h : Box w0 t cs w) : w0.heap.size < w.heap.size := h.holds.lt
theorem Box.next (h : Box w0 t cs w) (hb : Below w.heap.size w w') : Box w0 t cs w' := ⟨h.holds.below hb h.lt, h.below.trans (hb.mono (Nat.le_of_lt h.lt))⟩
theorem Box.drew (h : Box w0 t cs w) : Box w0 t cs w.drew := h.next (Below.refl _ _).drew
theorem Box.drewN (h : Box w0 t cs w) (n : Nat) : Box w0 t cs (w.drewN n) := h.next (below_drewN (Below.refl _ _) n)
theorem Box.alloc (h : Box w0 t cs w) (o : Obj) : Box w0 t cs (w.alloc o) := h.next (below_alloc _ _)
theorem Box.cells3 {a b c : Value} (h : Box w0 t #[a, b, c] w) : w.cell? ⟨w0.heap.size, 0, none⟩ = some a ∧ w.cell? ⟨w0.heap.size, 1, none⟩ = some b ∧ w.cell? ⟨w0.heap.size, 2, none⟩ = some c ∧ Box w0 t #[a, b, c] w :=
  ⟨h.holds.cell 0, h.holds.cell 1, h.holds.cell 2, h⟩
theorem Box.two {w1 : World} {t' : TypeId} {a b c d e f : Value} (h : Box w0 t #[a, b, c] w ∧ Box w1 t' #[d, e, f] w) :
    w.cell? ⟨w0.heap.size, 0, none⟩ = some a ∧ w.cell? ⟨w0.heap.size, 1, none⟩ = some b ∧ w.cell? ⟨w0.heap.size, 2, none⟩ = some c ∧ w.cell? ⟨w1.heap.size, 0, none⟩ = some d ∧ w.cell? ⟨w1.heap.size, 1, none⟩ = some e ∧ w.cell? ⟨w1.heap.size, 2, none⟩ = some f ∧ Box w0 t #[a, b, c] w ∧ Box w1 t' #[d, e, f] w :=
  ⟨h.1.holds.cell 0, h.1.holds.cell 1, h.1.holds.cell 2, h.2.holds.cell 0, h.2.holds.cell 1, h.2.holds.cell 2, h.1, h.2⟩
end
end Go.Proofs.Ytgmeakcfiaopcaa

/- A region that draws its order, where some operations load cells, calls follow, and the last operations ('late': each waits for all that were ahead) store into those very cells: the loads may be taken first, since nothing late comes up before them. Nothing here speaks of one program. -/
namespace Go.Proofs.Ytgmeakcfiaopcaa

section
variable {P : Program} {ops : Array Oper} {Q : Exit → Act → World → Prop} {md : Region.Mode} {S : World → Prop} {late : Nat → Bool}

/-- Whatever order is picked from here on; behind each operation that isn't late S holds. -/
def Turns (P : Program) (md : Region.Mode) (ops : Array Oper) (Q : Exit → Act → World → Prop) (S : World → Prop) (late : Nat → Bool) : Nat → Array Bool → Act → World → Prop
  | 0, listed, a, w => Region.ready md ops listed = [] ∧ Q .normal a w
  | n + 1, listed, a, w =>
    (Region.ready md ops listed = [] → Q .normal a w) ∧
    ∀ i ∈ Region.ready md ops listed, wpOp P ops Q i (fun a' w' => (late i = false → S w') ∧ Turns P md ops Q S late n (listed.setIfInBounds i true) a' w') a w

theorem Turns.any : ∀ {n : Nat} {listed : Array Bool} {a : Act} {w : World}, Turns P md ops Q S late n listed a w → wpAny P md ops Q n listed a w
  | 0, _, _, _, h => h
  | _ + 1, _, _, _, h => ⟨h.1, fun i hi => wpOp_mono (fun _ _ h' => Turns.any h'.2) (h.2 i hi)⟩

/-- Where all that is left is late, nothing is asked of S. -/
theorem Turns.rest : ∀ {n : Nat} {listed : Array Bool} {a : Act} {w : World}, (∀ i, listed.getD i true = false → late i = true) → wpAny P md ops Q n listed a w → Turns P md ops Q S late n listed a w
  | 0, _, _, _, _, h => h
  | _ + 1, listed, _, _, hl, h => ⟨h.1, fun i hi => wpOp_mono (fun _ _ h' => ⟨fun hf => absurd (hl i (mem_ready.1 hi).1) (by rw [hf]; decide), Turns.rest (fun j hj => by
      by_cases hij : i = j
      · subst hij
        exact hl i (mem_ready.1 hi).1
      · rw [getD_set_ne true hij] at hj
        exact hl j hj) h'⟩) (h.2 i hi)⟩

def lateLeft (late : Nat → Bool) (listed : Array Bool) : Bool := (List.range listed.size).all fun i => listed.getD i true || late i
theorem late_done {listed : Array Bool} (h : lateLeft late listed = true) (i : Nat) (hi : listed.getD i true = false) : late i = true := by
  rcases Nat.lt_or_ge i listed.size with hlt | hge
  · have h0 := List.all_eq_true.1 h i (List.mem_range.2 hlt)
    rw [hi] at h0
    simpa using h0
  · simp [Array.getElem?_eq_none hge] at hi
/-- Does j wait for i, itself or through some that have not come up? -/
def linked (md : Region.Mode) (ops : Array Oper) (listed : Array Bool) (i : Nat) : Nat → Nat → Bool
  | 0, j => Region.waitsFor md ops j i
  | d + 1, j => Region.waitsFor md ops j i || (List.range ops.size).any fun k => Region.waitsFor md ops j k && !listed.getD k false && linked md ops listed i d k
/-- Does each late operation wait for this one? -/
def lateWaits (md : Region.Mode) (ops : Array Oper) (late : Nat → Bool) (i : Nat) (listed : Array Bool) : Bool := (List.range ops.size).all fun j => !late j || linked md ops listed i 3 j
theorem waits_not {i j : Nat} {listed : Array Bool} (h : Region.waitsFor md ops j i = true) (hi : listed.getD i false = false) : j ∉ Region.ready md ops listed := fun hj => by
  obtain ⟨_, oj, hoj, hall⟩ := mem_ready.1 hj
  obtain ⟨o', ho', e, he, hb, hon⟩ := Region.waitsFor_spec h
  obtain rfl : o' = oj := Option.some.inj (ho'.symm.trans hoj)
  have h0 := hall e he hb
  rw [hon, hi] at h0
  cases h0
theorem linked_not {i : Nat} {listed : Array Bool} (hi : listed.getD i false = false) : ∀ {d j : Nat}, linked md ops listed i d j = true → j ∉ Region.ready md ops listed
  | 0, _, h => waits_not h hi
  | d + 1, j, h => by
    simp only [linked, Bool.or_eq_true, List.any_eq_true, Bool.and_eq_true, Bool.not_eq_true'] at h
    rcases h with h | ⟨k, _, ⟨h1, h2⟩, _⟩
    · exact waits_not h hi
    · exact waits_not h1 h2
theorem linked_set {i j0 : Nat} {listed : Array Bool} (hi : listed.getD i false = false) (hj : j0 ∈ Region.ready md ops listed) : ∀ {d j : Nat}, linked md ops listed i d j = true → linked md ops (listed.setIfInBounds j0 true) i d j = true
  | 0, _, h => h
  | d + 1, j, h => by
    simp only [linked, Bool.or_eq_true, List.any_eq_true, Bool.and_eq_true, Bool.not_eq_true'] at h ⊢
    refine h.imp id fun ⟨k, hk, ⟨h1, h2⟩, h3⟩ => ⟨k, hk, ⟨h1, ?_⟩, linked_set hi hj h3⟩
    have hjk : j0 ≠ k := fun e => linked_not hi h3 (by rw [← e]; exact hj)
    rw [getD_set_ne false hjk]
    exact h2
theorem late_not {i j : Nat} {listed : Array Bool} (hw : lateWaits md ops late i listed = true) (hi : listed.getD i false = false) (hj : j ∈ Region.ready md ops listed) : late j = false := by
  rcases hl : late j with _ | _
  · rfl
  · obtain ⟨_, oj, hoj, _⟩ := mem_ready.1 hj
    have h0 := List.all_eq_true.1 hw j (List.mem_range.2 (Array.getElem?_eq_some_iff.1 hoj).1)
    rw [hl] at h0
    exact absurd hj (linked_not hi (by simpa using h0))
theorem late_set {i j : Nat} {listed : Array Bool} (hw : lateWaits md ops late i listed = true) (hi : listed.getD i false = false) (hj : j ∈ Region.ready md ops listed) : lateWaits md ops late i (listed.setIfInBounds j true) = true := by
  refine List.all_eq_true.2 fun l hl => ?_
  have h0 := List.all_eq_true.1 hw l hl
  simp only [Bool.or_eq_true] at h0 ⊢
  exact h0.imp id (linked_set hi hj)

theorem Turns.first {i : Nat} {oi : Oper} {v : Value} (hi : ops[i]? = some oi) (hs : Region.noSelect ops = true) (hQ : ∀ c a w, Q (.panic c) (a.put oi.dst v) w → Q (.panic c) a w) :
    ∀ (n : Nat) (listed : Array Bool) (a : Act) (w : World), (∀ j oj, ops[j]? = some oj → j ≠ i → listed.getD j true = false → (∀ e ∈ oj.after, Region.binds md e = true → e.on ≠ i) → oi.apart ops oj = true) →
      lateWaits md ops late i listed = true → i ∈ Region.ready md ops listed → YieldsIf P ops S oi v a → S w → Turns P md ops Q S late n (listed.setIfInBounds i true) (a.put oi.dst v) w → Turns P md ops Q S late (n + 1) listed a w := by
  have hsel := Region.noSelect_spec hs
  have now : ∀ {n : Nat} {listed : Array Bool} {a : Act} {w : World}, YieldsIf P ops S oi v a → S w → Turns P md ops Q S late n (listed.setIfInBounds i true) (a.put oi.dst v) w →
      wpOp P ops Q i (fun a' w' => (late i = false → S w') ∧ Turns P md ops Q S late n (listed.setIfInBounds i true) a' w') a w := fun hy hS H => hy.wpOp hi hS ⟨fun _ => hS, H⟩
  intro n
  induction n with
  | zero =>
    intro listed a w _ _ hr hy hS H
    refine ⟨fun h => (by rw [h] at hr; cases hr), fun j hj => ?_⟩
    by_cases hne : j = i
    · subst hne
      exact now hy hS H
    · have h0 := ready_mono hj hne
      rw [H.1] at h0
      cases h0
  | succ n ih =>
    intro listed a w hfree hw hr hy hS H
    refine ⟨fun h => (by rw [h] at hr; cases hr), fun j hj => ?_⟩
    by_cases hne : j = i
    · subst hne
      exact now hy hS H
    obtain ⟨hun, oj, hoj, hall⟩ := mem_ready.1 hj
    have hni : listed.getD i false = false := getD_both (mem_ready.1 hr).1
    have hno : ∀ e ∈ oj.after, Region.binds md e = true → e.on ≠ i := fun e he hb heq => by
      have h0 := hall e he hb
      rw [heq, hni] at h0
      cases h0
    have h2 := wpOp_putIf hoj (hfree j oj hoj hne hun hno) (fun cs b => hsel i oi cs b hi) (fun cs b => hsel j oj cs b hoj) hQ hy (H.2 j (ready_mono hj hne))
    refine wpOp_mono (fun a' w' h3 => ⟨h3.2.1, ih _ a' w' (fun k ok hk hki hk' hkn => hfree k ok hk hki ?_ hkn) (late_set hw hni hj) (ready_mono hr (Ne.symm hne)) h3.1 (h3.2.1 (late_not hw hni hj)) ?_⟩) h2
    · by_cases hjk : j = k
      · rw [← hjk]
        exact hun
      · rwa [getD_set_ne true hjk] at hk'
    · rw [Array.setIfInBounds_comm _ _ hne]
      exact h3.2.2

/-- Number i is taken first: in every world that meets S it yields v. -/
theorem Turns.take {n : Nat} {listed : Array Bool} {a : Act} {w : World} (hS : S w) (i : Nat) (v : Value) {oi : Oper} (hi : ops[i]? = some oi) (hs : Region.noSelect ops = true) (hf : Region.free md ops listed i = true)
    (hr : (Region.ready md ops listed).contains i = true) (hw : lateWaits md ops late i listed = true) (hQ : ∀ c a w, Q (.panic c) (a.put oi.dst v) w → Q (.panic c) a w) (hwant : Region.wanted oi (yielded ops a.tmps) = true)
    (hy : ∀ w, S w → (execOp a.eval oi).run P w = .ok (.value v) w) (h : Turns P md ops Q S late n (listed.setIfInBounds i true) (a.put oi.dst v) w) : Turns P md ops Q S late (n + 1) listed a w :=
  Turns.first hi hs hQ n listed a w (Region.free_spec hi hf) hw (by simpa using hr) (.inl ⟨hwant, hy⟩) hS h

/-- Number i, which its guard shuts out, is passed over first. -/
theorem Turns.skip {n : Nat} {listed : Array Bool} {a : Act} {w : World} (hS : S w) (i : Nat) {oi : Oper} (hi : ops[i]? = some oi) (hs : Region.noSelect ops = true) (hf : Region.free md ops listed i = true)
    (hr : (Region.ready md ops listed).contains i = true) (hw : lateWaits md ops late i listed = true) (hQ : ∀ c a w, Q (.panic c) (a.put oi.dst undef) w → Q (.panic c) a w) (hwant : Region.wanted oi (yielded ops a.tmps) = false)
    (h : Turns P md ops Q S late n (listed.setIfInBounds i true) (a.put oi.dst undef) w) : Turns P md ops Q S late (n + 1) listed a w :=
  Turns.first hi hs hQ n listed a w (Region.free_spec hi hf) hw (by simpa using hr) (.inr ⟨hwant, rfl⟩) hS h

/-- Number i alone may come up: it is carried out, and S is shown behind it. -/
theorem Turns.next {n : Nat} {listed : Array Bool} {a : Act} {w : World} (i : Nat) {oi : Oper} (hi : ops[i]? = some oi) (hr : Region.ready md ops listed = [i]) (hwant : Region.wanted oi (yielded ops a.tmps) = true)
    (h : ∀ K : Act → World → Prop, Shut (∀ a' w', S w' → Turns P md ops Q S late n (listed.setIfInBounds i true) a' w' → K a' w') → oi.wp P a w K Q) : Turns P md ops Q S late (n + 1) listed a w :=
  ⟨fun h0 => (by rw [hr] at h0; cases h0), fun j hj => by
    rw [hr] at hj
    obtain rfl : j = i := by simpa using hj
    exact wpOp_step hi fun K hK => by
      rw [if_pos hwant]
      exact h K fun a' w' hS hT => hK _ _ ⟨fun _ => hS, hT⟩⟩

/-- Two may come up: either is carried out, and S is shown behind it. -/
theorem Turns.either {n : Nat} {listed : Array Bool} {a : Act} {w : World} (i j : Nat) {oi oj : Oper} (hi : ops[i]? = some oi) (hj : ops[j]? = some oj) (hr : Region.ready md ops listed = [i, j])
    (hwi : Region.wanted oi (yielded ops a.tmps) = true) (hwj : Region.wanted oj (yielded ops a.tmps) = true)
    (h1 : ∀ K : Act → World → Prop, Shut (∀ a' w', S w' → Turns P md ops Q S late n (listed.setIfInBounds i true) a' w' → K a' w') → oi.wp P a w K Q)
    (h2 : ∀ K : Act → World → Prop, Shut (∀ a' w', S w' → Turns P md ops Q S late n (listed.setIfInBounds j true) a' w' → K a' w') → oj.wp P a w K Q) : Turns P md ops Q S late (n + 1) listed a w :=
  ⟨fun h0 => (by rw [hr] at h0; cases h0), fun k hk => by
    rw [hr] at hk
    have hk' : k = i ∨ k = j := by simpa using hk
    rcases hk' with rfl | rfl
    · exact wpOp_step hi fun K hK => by
        rw [if_pos hwi]
        exact h1 K fun a' w' hS hT => hK _ _ ⟨fun _ => hS, hT⟩
    · exact wpOp_step hj fun K hK => by
        rw [if_pos hwj]
        exact h2 K fun a' w' hS hT => hK _ _ ⟨fun _ => hS, hT⟩⟩

/-- Number i alone may come up, where all that is left is late. -/
theorem any_next {n : Nat} {listed : Array Bool} {a : Act} {w : World} (i : Nat) {oi : Oper} (hi : ops[i]? = some oi) (hr : Region.ready md ops listed = [i]) (hwant : Region.wanted oi (yielded ops a.tmps) = true)
    (h : ∀ K : Act → World → Prop, Shut (∀ a' w', wpAny P md ops Q n (listed.setIfInBounds i true) a' w' → K a' w') → oi.wp P a w K Q) : wpAny P md ops Q (n + 1) listed a w :=
  ⟨fun h0 => (by rw [hr] at h0; cases h0), fun j hj => by
    rw [hr] at hj
    obtain rfl : j = i := by simpa using hj
    exact wpOp_step hi fun K hK => by
      rw [if_pos hwant]
      exact h K hK⟩
/-- An operation that no world turns is taken first, where all that is left is late. -/
theorem any_take {n : Nat} {listed : Array Bool} {a : Act} {w : World} (i : Nat) (v : Value) {oi : Oper} (hi : ops[i]? = some oi) (hs : Region.noSelect ops = true) (hf : Region.free md ops listed i = true)
    (hr : (Region.ready md ops listed).contains i = true) (hQ : ∀ c a w, Q (.panic c) (a.put oi.dst v) w → Q (.panic c) a w) (hwant : Region.wanted oi (yielded ops a.tmps) = true)
    (hy : ∀ w, (execOp a.eval oi).run P w = .ok (.value v) w) (h : wpAny P md ops Q n (listed.setIfInBounds i true) (a.put oi.dst v) w) : wpAny P md ops Q (n + 1) listed a w :=
  wpAny_take hi hs hf hr hQ (.inl ⟨hwant, hy⟩) h

/-- What is left comes up in the text's order. -/
theorem any_tail {n : Nat} {listed : Array Bool} {a : Act} {w : World} (k : Nat) (hn : n = ops.size - k) (hB : Region.seqB md ops (ops.size - k) k listed = true) (h : wpList P ops Q (ops.toList.drop k) a w) : wpAny P md ops Q n listed a w := by
  have hl : (ops.toList.drop k).length = ops.size - k := by simp
  rw [hn, ← hl]
  exact wpAny_of_seq _ k listed a w (fun j => by simp) (by rw [hl]; exact hB) h

/-- The beginning, at a region that draws its order. -/
theorem region_turns {id : Nat} {a : Act} {w : World} (S : World → Prop) (late : Nat → Bool) (hm : P.follows .mixedOrders = true) (hS : S w.drew)
    (h : S w.drew → Turns P .any ops Q S late ops.size (Array.replicate ops.size false) a w.drew) : (Code.region id ops true).wp P Q a w :=
  wp_region_any hm (h hS).any
end
end Go.Proofs.Ytgmeakcfiaopcaa

/- Package table: what a table is in memory; Good, Len, Last. -/
namespace Go.Proofs.Ytgmeakcfiaopcaa
open Go.RowKit
set_option linter.unusedSimpArgs false
set_option linter.unusedVariables false

/-- Can an entry be? -/
structure CanE (e : Ent) : Prop where
  l1 : 0 ≤ e.1
  l2 : e.1 ≤ 1125899906842624
  o1 : -1125899906842624 ≤ e.2.1
  o2 : e.2.1 ≤ 1125899906842624
  h1 : 1 ≤ e.2.2
  h2 : e.2.2 ≤ 63
theorem not_canE {a b c : Int} (h : ¬ CanE (a, b, c)) : a < 0 ∨ (0 ≤ a ∧ 1125899906842624 < a) ∨ (0 ≤ a ∧ a ≤ 1125899906842624 ∧ b < -1125899906842624) ∨ (0 ≤ a ∧ a ≤ 1125899906842624 ∧ -1125899906842624 ≤ b ∧ 1125899906842624 < b)
    ∨ (0 ≤ a ∧ a ≤ 1125899906842624 ∧ -1125899906842624 ≤ b ∧ b ≤ 1125899906842624 ∧ c < 1) ∨ (0 ≤ a ∧ a ≤ 1125899906842624 ∧ -1125899906842624 ≤ b ∧ b ≤ 1125899906842624 ∧ 1 ≤ c ∧ 63 < c) := by
  refine Classical.byContradiction fun g => h ⟨?_, ?_, ?_, ?_, ?_, ?_⟩ <;> dsimp only <;> omega
/-- An entry as a value. -/
def entV (e : Ent) : Value := .agg #[.int .i64 e.1, .int .i64 e.2.1, .int .i64 e.2.2]

theorem good_yes (a b c : Int) (w : World) (h : CanE (a, b, c)) :
    Calls Try.prog 29 #[.agg #[.int .i64 a, .int .i64 b, .int .i64 c]] w fun e w' => e = .returned (.bool true) ∧ Below w.heap.size w w' := by
  obtain ⟨h1, h2, h3, h4, h5, h6⟩ := h
  dsimp only at h1 h2 h3 h4 h5 h6
  have d1 : decide (a < 0) = false := decide_eq_false (by omega)
  have d2 : decide (1125899906842624 < a) = false := decide_eq_false (by omega)
  have d3 : decide (b < -1125899906842624) = false := decide_eq_false (by omega)
  have d4 : decide (1125899906842624 < b) = false := decide_eq_false (by omega)
  have k := (Holds.new w 42 #[.int .i64 a, .int .i64 b, .int .i64 c])
  have c0 := k.cell 0
  have c1 := k.cell 1
  have c2 := k.cell 2
  clear k
  go_enter Try.func29, Try.ntmps29
  go_wp2
  go_ret
  exact ⟨rfl, below_alloc _ _⟩
theorem good_no (a b c : Int) (w : World) (h : ¬ CanE (a, b, c)) :
    Calls Try.prog 29 #[.agg #[.int .i64 a, .int .i64 b, .int .i64 c]] w fun e w' => e = .returned (.bool false) ∧ Below w.heap.size w w' := by
  have k := (Holds.new w 42 #[.int .i64 a, .int .i64 b, .int .i64 c])
  have c0 := k.cell 0
  have c1 := k.cell 1
  have c2 := k.cell 2
  clear k
  rcases not_canE h with h1 | ⟨h1, h2⟩ | ⟨h1, h2, h3⟩ | ⟨h1, h2, h3, h4⟩ | ⟨h1, h2, h3, h4, h5⟩ | ⟨h1, h2, h3, h4, h5, h6⟩
  all_goals
    clear h
    try have d1 : decide (a < 0) = false := decide_eq_false (by omega)
    try have d2 : decide (1125899906842624 < a) = false := decide_eq_false (by omega)
    try have d3 : decide (b < -1125899906842624) = false := decide_eq_false (by omega)
    try have d4 : decide (1125899906842624 < b) = false := decide_eq_false (by omega)
    try have d5 : decide (1 ≤ c) = false := decide_eq_false (by omega)
    try have d6 : decide (c ≤ 63) = false := decide_eq_false (by omega)
    go_enter Try.func29, Try.ntmps29
    go_wp2
    go_ret
    exact ⟨rfl, below_alloc _ _⟩

/-- A table within block g, behind the cells pre and ahead of the cells post: K is its eight places, of which the first are its entries. -/
structure T0 (w : World) (g o : Nat) (t : TypeId) (pre post : List Value) (K L : List Ent) : Prop where
  at' : pre.length = o
  eight : K.length = 8
  le : L.length ≤ 8
  is : K.take L.length = L
  holds : Holds w g t (tcs pre post K L.length).toArray
def Tb (w : World) (g o : Nat) (t : TypeId) (pre post : List Value) (L : List Ent) : Prop := ∃ K, T0 w g o t pre post K L
section
variable {w w' : World} {g o : Nat} {t : TypeId} {pre post : List Value} {K L : List Ent}
theorem T0.count (h : T0 w g o t pre post K L) : w.cell? ⟨g, o + 24, none⟩ = some (.int .i64 L.length) := by
  rw [h.holds.cell, List.getElem?_toArray, tcs_num h.eight h.at']
theorem T0.soft (h : T0 w g o t pre post K L) (i : Nat) : w.frozen? ⟨g, i, none⟩ = false := h.holds.soft i
theorem T0.place (h : T0 w g o t pre post K L) {i : Nat} {e : Ent} (hi : K[i]? = some e) :
    w.cell? ⟨g, o + i * 3, none⟩ = some (.int .i64 e.1) ∧ w.cell? ⟨g, o + i * 3 + 1, none⟩ = some (.int .i64 e.2.1) ∧ w.cell? ⟨g, o + i * 3 + 2, none⟩ = some (.int .i64 e.2.2) := by
  have hi8 : i < 8 := by have := (List.getElem?_eq_some_iff.1 hi).1; rw [h.eight] at this; exact this
  obtain ⟨g0, g1, g2⟩ := trs_get K i e hi
  have key : ∀ j, j < 24 → w.cell? ⟨g, o + j, none⟩ = (trs K)[j]? := fun j hj => by
    rw [h.holds.cell, List.getElem?_toArray, tcs_at h.eight h.at' hj]
  exact ⟨(key _ (by omega)).trans g0, by rw [Nat.add_assoc]; exact (key _ (by omega)).trans g1, by rw [Nat.add_assoc]; exact (key _ (by omega)).trans g2⟩
theorem T0.ent (h : T0 w g o t pre post K L) {i : Nat} (hi : i < L.length) : K[i]? = L[i]? := by
  have := congrArg (·[i]?) h.is
  simp only [List.getElem?_take, if_pos hi] at this
  exact this
theorem T0.at (h : T0 w g o t pre post K L) {i : Nat} {e : Ent} (hi : L[i]? = some e) :
    w.cell? ⟨g, o + i * 3, none⟩ = some (.int .i64 e.1) ∧ w.cell? ⟨g, o + i * 3 + 1, none⟩ = some (.int .i64 e.2.1) ∧ w.cell? ⟨g, o + i * 3 + 2, none⟩ = some (.int .i64 e.2.2) :=
  h.place ((h.ent (List.getElem?_eq_some_iff.1 hi).1).trans hi)
theorem T0.chg {S : Nat → Prop} (h : T0 w g o t pre post K L) (hc : Chg S w w') (hn : ¬ S g) : T0 w' g o t pre post K L := { h with holds := h.holds.chg hc hn }
theorem Tb.chg {S : Nat → Prop} (h : Tb w g o t pre post L) (hc : Chg S w w') (hn : ¬ S g) : Tb w' g o t pre post L := by
  obtain ⟨K, h⟩ := h
  exact ⟨K, h.chg hc hn⟩
theorem Tb.below (h : Tb w g o t pre post L) (hb : Below w.heap.size w w') : Tb w' g o t pre post L := h.chg (Chg.of_below (fun _ => False) hb) id
theorem Tb.lt (h : Tb w g o t pre post L) : g < w.heap.size := by
  obtain ⟨K, h⟩ := h
  exact h.holds.lt
theorem Tb.le (h : Tb w g o t pre post L) : L.length ≤ 8 := by
  obtain ⟨K, h⟩ := h
  exact h.le
end

theorem len_any (w : World) (g o : Nat) (t : TypeId) (pre post : List Value) (L : List Ent) (h : Tb w g o t pre post L) :
    Calls Try.prog 44 #[.pointer (some ⟨g, o, none⟩)] w fun e w' => e = .returned (.int .i64 L.length) ∧ w' = w := by
  obtain ⟨K, h⟩ := h
  have c := h.count
  clear h
  go_enter Try.func44, Try.ntmps44
  go_wp2
  go_ret
  exact ⟨rfl, rfl⟩
theorem len_nil (w : World) : Calls Try.prog 44 #[.pointer none] w fun e w' => e = .returned (.int .i64 0) ∧ w' = w := by
  go_enter Try.func44, Try.ntmps44
  go_wp2
  go_ret
  exact ⟨rfl, rfl⟩

/-- Behind Last. -/
def Told (L : List Ent) (w : World) (e : Ending) (w' : World) : Prop :=
  (match L.getLast? with | none => e = .returned (.tuple #[.agg #[.int .i64 0, .int .i64 0, .int .i64 0], .bool false]) | some (a, b, c) => e = .returned (.tuple #[.agg #[.int .i64 a, .int .i64 b, .int .i64 c], .bool true])) ∧ Below w.heap.size w w'
theorem last_nil (w : World) : Calls Try.prog 46 #[.pointer none] w (Told [] w) := by
  have hend : ∀ w', Below w.heap.size w w' → Told [] w (.returned (.tuple #[.agg #[.int .i64 0, .int .i64 0, .int .i64 0], .bool false])) w' := fun w' hb => ⟨rfl, hb⟩
  have HE := Lib.hid hend
  clear hend
  go_enter Try.func46, Try.ntmps46
  go_wp2_with (go_at_call 44; refine (len_nil _).mono ?_; rintro e w' ⟨rfl, rfl⟩)
  (try simp only [Exit.inBlock, Exit.then])
  refine bodyPost_ret (results_row_tmp rfl _ _ w.heap.size 42 [.int .i64 0, .int .i64 0, .int .i64 0] _ _ rfl (Holds.new w _ _) Try.underlying42 rfl (by kernel_rfl) rfl) rfl ?_
  exact HE.out _ (below_alloc _ _)
theorem last_any (w : World) (g o : Nat) (t : TypeId) (pre post : List Value) (L : List Ent) (h : Tb w g o t pre post L) :
    Calls Try.prog 46 #[.pointer (some ⟨g, o, none⟩)] w (Told L w) := by
  have hlen := len_any (w.alloc (.cells #[.int .i64 0, .int .i64 0, .int .i64 0] 42)) g o t pre post L (h.below (below_alloc _ _))
  rcases List.eq_nil_or_concat L with rfl | ⟨M, x, rfl⟩
  · have hend : ∀ w', Below w.heap.size w w' → Told [] w (.returned (.tuple #[.agg #[.int .i64 0, .int .i64 0, .int .i64 0], .bool false])) w' := fun w' hb => ⟨rfl, hb⟩
    have HE := Lib.hid hend
    clear hend h
    go_enter Try.func46, Try.ntmps46
    go_wp2_with (go_at_call 44; refine hlen.mono ?_; rintro e w' ⟨rfl, rfl⟩)
    (try simp only [Exit.inBlock, Exit.then])
    refine bodyPost_ret (results_row_tmp rfl _ _ w.heap.size 42 [.int .i64 0, .int .i64 0, .int .i64 0] _ _ rfl (Holds.new w _ _) Try.underlying42 rfl (by kernel_rfl) rfl) rfl ?_
    exact HE.out _ (below_alloc _ _)
  · obtain ⟨a, b, c⟩ := x
    rw [List.concat_eq_append] at hlen h ⊢
    have hend : ∀ w', Below w.heap.size w w' → Told (M ++ [(a, b, c)]) w (.returned (.tuple #[.agg #[.int .i64 a, .int .i64 b, .int .i64 c], .bool true])) w' := fun w' hb => by
      refine ⟨?_, hb⟩
      rw [List.getLast?_append]
      rfl
    have HE := Lib.hid hend
    have hT := h.below (below_alloc w (.cells #[.int .i64 0, .int .i64 0, .int .i64 0] 42))
    have h8 := h.le
    obtain ⟨K, hT⟩ := hT
    have hm : (M ++ [(a, b, c)])[M.length]? = some (a, b, c) := by simp
    obtain ⟨q0, q1, q2⟩ := hT.at hm
    have qc := hT.count
    have hl : (M ++ [(a, b, c)]).length = M.length + 1 := by simp
    rw [hl] at hlen qc h8
    obtain ⟨m, hm'⟩ : ∃ m, M.length = m := ⟨_, rfl⟩
    rw [hm'] at hlen qc q0 q1 q2 h8
    have ew : IntKind.i64.wrap (((m + 1 : Nat) : Int) - 1) = (m : Int) := by
      rw [IntWalk.i64_in _ (by omega)]
      omega
    have ew2 : IntKind.i64.wrap (m : Int) = (m : Int) := IntWalk.i64_in _ (by omega)
    have hm8 : (m : Int) < 8 := by omega
    have hne : (((m + 1 : Nat) : Int) == 0) = false := by simp; omega
    have hX := Lib.hid (Holds.new w 42 #[.int .i64 0, .int .i64 0, .int .i64 0])
    clear hend h hT hm hl hm'
    go_enter Try.func46, Try.ntmps46
    go_wp2_with (go_at_call 44; refine hlen.mono ?_; rintro e w' ⟨rfl, rfl⟩)
    refine region_turns (fun (w' : World) => w'.cell? ⟨g, o + 24, none⟩ = some (.int .i64 ((m + 1 : Nat) : Int)) ∧ w'.cell? ⟨g, o + m * 3, none⟩ = some (.int .i64 a) ∧ w'.cell? ⟨g, o + m * 3 + 1, none⟩ = some (.int .i64 b) ∧ w'.cell? ⟨g, o + m * 3 + 2, none⟩ = some (.int .i64 c)) (fun j => decide (10 ≤ j)) (by kernel_rfl) (⟨qc, q0, q1, q2⟩) (fun hS => ?_)
    refine Turns.take hS 0 _ rfl (by kernel_rfl) (by kernel_rfl) (by kernel_rfl) (by kernel_rfl) (fun _ _ _ h => h) (by rfl) (fun w' hS' => by (try dsimp only at hS'); go_split_ands; go_simp; (try with_reducible rfl)) ?_
    simp only [Act.put, List.getElem_toArray, List.getElem_cons_succ, List.getElem_cons_zero, List.setIfInBounds_toArray, List.set_cons_zero, List.set_cons_succ]
    refine Turns.take hS 1 _ rfl (by kernel_rfl) (by kernel_rfl) (by kernel_rfl) (by kernel_rfl) (fun _ _ _ h => h) (by rfl) (fun w' hS' => by (try dsimp only at hS'); go_split_ands; go_simp; (try with_reducible rfl)) ?_
    simp only [Act.put, List.getElem_toArray, List.getElem_cons_succ, List.getElem_cons_zero, List.setIfInBounds_toArray, List.set_cons_zero, List.set_cons_succ]
    refine Turns.take hS 2 _ rfl (by kernel_rfl) (by kernel_rfl) (by kernel_rfl) (by kernel_rfl) (fun _ _ _ h => h) (by rfl) (fun w' hS' => by (try dsimp only at hS'); go_split_ands; go_simp; (try with_reducible rfl)) ?_
    simp only [Act.put, List.getElem_toArray, List.getElem_cons_succ, List.getElem_cons_zero, List.setIfInBounds_toArray, List.set_cons_zero, List.set_cons_succ]
    refine Turns.take hS 3 _ rfl (by kernel_rfl) (by kernel_rfl) (by kernel_rfl) (by kernel_rfl) (fun _ _ _ h => h) (by rfl) (fun w' hS' => by (try dsimp only at hS'); go_split_ands; go_simp; (try with_reducible rfl)) ?_
    simp only [Act.put, List.getElem_toArray, List.getElem_cons_succ, List.getElem_cons_zero, List.setIfInBounds_toArray, List.set_cons_zero, List.set_cons_succ]
    refine Turns.take hS 4 _ rfl (by kernel_rfl) (by kernel_rfl) (by kernel_rfl) (by kernel_rfl) (fun _ _ _ h => h) (by rfl) (fun w' hS' => by (try dsimp only at hS'); go_split_ands; go_simp; (try with_reducible rfl)) ?_
    simp only [Act.put, List.getElem_toArray, List.getElem_cons_succ, List.getElem_cons_zero, List.setIfInBounds_toArray, List.set_cons_zero, List.set_cons_succ]
    refine Turns.take hS 5 _ rfl (by kernel_rfl) (by kernel_rfl) (by kernel_rfl) (by kernel_rfl) (fun _ _ _ h => h) (by rfl) (fun w' hS' => by (try dsimp only at hS'); go_split_ands; go_simp; (try with_reducible rfl)) ?_
    simp only [Act.put, List.getElem_toArray, List.getElem_cons_succ, List.getElem_cons_zero, List.setIfInBounds_toArray, List.set_cons_zero, List.set_cons_succ]
    refine Turns.take hS 6 _ rfl (by kernel_rfl) (by kernel_rfl) (by kernel_rfl) (by kernel_rfl) (fun _ _ _ h => h) (by rfl) (fun w' hS' => by (try dsimp only at hS'); go_split_ands; go_simp; (try with_reducible rfl)) ?_
    simp only [Act.put, List.getElem_toArray, List.getElem_cons_succ, List.getElem_cons_zero, List.setIfInBounds_toArray, List.set_cons_zero, List.set_cons_succ]
    refine Turns.take hS 7 _ rfl (by kernel_rfl) (by kernel_rfl) (by kernel_rfl) (by kernel_rfl) (fun _ _ _ h => h) (by rfl) (fun w' hS' => by (try dsimp only at hS'); go_split_ands; go_simp; (try with_reducible rfl)) ?_
    simp only [Act.put, List.getElem_toArray, List.getElem_cons_succ, List.getElem_cons_zero, List.setIfInBounds_toArray, List.set_cons_zero, List.set_cons_succ]
    refine Turns.take hS 8 _ rfl (by kernel_rfl) (by kernel_rfl) (by kernel_rfl) (by kernel_rfl) (fun _ _ _ h => h) (by rfl) (fun w' hS' => by (try dsimp only at hS'); go_split_ands; go_simp; (try with_reducible rfl)) ?_
    simp only [Act.put, List.getElem_toArray, List.getElem_cons_succ, List.getElem_cons_zero, List.setIfInBounds_toArray, List.set_cons_zero, List.set_cons_succ]
    refine Turns.take hS 9 _ rfl (by kernel_rfl) (by kernel_rfl) (by kernel_rfl) (by kernel_rfl) (fun _ _ _ h => h) (by rfl) (fun w' hS' => by (try dsimp only at hS'); go_split_ands; go_simp; (try with_reducible rfl)) ?_
    simp only [Act.put, List.getElem_toArray, List.getElem_cons_succ, List.getElem_cons_zero, List.setIfInBounds_toArray, List.set_cons_zero, List.set_cons_succ]
    refine Turns.rest (late_done (by kernel_rfl)) ?_
    refine any_tail 10 (by rfl) (by kernel_rfl) ?_
    simp only [List.drop_succ_cons, List.drop_zero]
    clear hS
    go_wp2
    refine bodyPost_ret (results_row_tmp rfl _ _ w.heap.size 42 [.int .i64 a, .int .i64 b, .int .i64 c] _ _ rfl (Holds.drewN (Holds.new w _ _) 1) Try.underlying42 rfl (by kernel_rfl) rfl) rfl ?_
    exact HE.out _ (below_alloc _ _).drew
end Go.Proofs.Ytgmeakcfiaopcaa

/- Package source: what was asked, how it lies; New, Drop, Put, Beat, Fresh. -/
namespace Go.Proofs.Ytgmeakcfiaopcaa
open Go.RowKit
set_option linter.unusedVariables false
set_option linter.unusedSimpArgs false

/-- The limit; what was asked: an entry, whose it is; for how many rounds it is good still. -/
structure AS where
  lim : Int
  lo : Int
  off : Int
  hp : Int
  ro : Int
  bo : Int
  left : Int
def newA (lim : Int) : AS := ⟨lim, 0, 0, 0, 0, 0, 0⟩
def dropA (a : AS) : AS := ⟨a.lim, 0, 0, 0, 0, 0, 0⟩
def afreshB (a : AS) : Bool := decide (0 < a.left)
/-- Can an entry be, and whose it is? -/
def putB (lo off hp ro : Int) : Bool := decide (((0 ≤ lo ∧ lo ≤ 1125899906842624) ∧ -1125899906842624 ≤ off ∧ off ≤ 1125899906842624) ∧ (1 ≤ hp ∧ hp ≤ 63) ∧ 0 ≤ ro ∧ ro ≤ 63)
def putA (a : AS) (lo off hp ro bo : Int) : AS := if putB lo off hp ro = true then ⟨a.lim, lo, off, hp, ro, bo, a.lim⟩ else a
def putV (lo off hp ro : Int) : Int := if putB lo off hp ro = true then 0 else 1
def beatA (a : AS) : AS := if 0 < a.left then { a with left := a.left - 1 } else a
structure AInv (a : AS) : Prop where
  lim : 1 ≤ a.lim ∧ a.lim ≤ 1000
  left : 0 ≤ a.left ∧ a.left ≤ a.lim
  off : -1125899906842624 ≤ a.off ∧ a.off ≤ 1125899906842624
theorem AInv.new {lim : Int} (h : 1 ≤ lim ∧ lim ≤ 1000) : AInv (newA lim) := ⟨h, ⟨Int.le_refl 0, by show (0 : Int) ≤ lim; omega⟩, ⟨by show (-1125899906842624 : Int) ≤ 0; omega, by show (0 : Int) ≤ 1125899906842624; omega⟩⟩
theorem AInv.drop {a : AS} (h : AInv a) : AInv (dropA a) := AInv.new h.lim
theorem putB_iff (lo off hp ro : Int) : putB lo off hp ro = true ↔ ((0 ≤ lo ∧ lo ≤ 1125899906842624) ∧ -1125899906842624 ≤ off ∧ off ≤ 1125899906842624) ∧ (1 ≤ hp ∧ hp ≤ 63) ∧ 0 ≤ ro ∧ ro ≤ 63 := decide_eq_true_iff
theorem AInv.put {a : AS} (h : AInv a) (lo off hp ro bo : Int) : AInv (putA a lo off hp ro bo) := by
  unfold putA
  split
  · rename_i hp
    exact ⟨h.lim, ⟨by have := h.lim; show 0 ≤ a.lim; omega, Int.le_refl _⟩, ((putB_iff _ _ _ _).1 hp).1.2⟩
  · exact h
theorem AInv.beat {a : AS} (h : AInv a) : AInv (beatA a) := by
  have h1 := h.left
  unfold beatA
  split
  · exact ⟨h.lim, ⟨by show 0 ≤ a.left - 1; omega, by show a.left - 1 ≤ a.lim; omega⟩, h.off⟩
  · exact h

/-- How it lies. -/
def srcC (a : AS) : Array Value := #[.int .i64 a.lim, .int .i64 a.lo, .int .i64 a.off, .int .i64 a.hp, .int .i64 a.ro, .int .u16 a.bo, .int .i64 a.left]
def Sq (w : World) (g : Nat) (a : AS) : Prop := Holds w g 74 (srcC a)
section
variable {w w' : World} {g : Nat} {a : AS}
theorem Sq.c0 (h : Sq w g a) : w.cell? ⟨g, 0, none⟩ = some (.int .i64 a.lim) := Holds.cell h 0
theorem Sq.c1 (h : Sq w g a) : w.cell? ⟨g, 1, none⟩ = some (.int .i64 a.lo) := Holds.cell h 1
theorem Sq.c2 (h : Sq w g a) : w.cell? ⟨g, 2, none⟩ = some (.int .i64 a.off) := Holds.cell h 2
theorem Sq.c3 (h : Sq w g a) : w.cell? ⟨g, 3, none⟩ = some (.int .i64 a.hp) := Holds.cell h 3
theorem Sq.c4 (h : Sq w g a) : w.cell? ⟨g, 4, none⟩ = some (.int .i64 a.ro) := Holds.cell h 4
theorem Sq.c5 (h : Sq w g a) : w.cell? ⟨g, 5, none⟩ = some (.int .u16 a.bo) := Holds.cell h 5
theorem Sq.c6 (h : Sq w g a) : w.cell? ⟨g, 6, none⟩ = some (.int .i64 a.left) := Holds.cell h 6
theorem Sq.below {B : Nat} (h : Sq w g a) (hb : Below B w w') (hg : g < B) : Sq w' g a := Holds.below h hb hg
theorem Sq.chg {S : Nat → Prop} (h : Sq w g a) (hc : Chg S w w') (hS : ¬ S g) : Sq w' g a := Holds.chg h hc hS
end
/-- What a call that writes leaves: nothing else that was there is changed. -/
def SGoes (g : Nat) (a : AS) (w w' : World) : Prop := Sq w' g a ∧ Chg (fun k => k = g) w w'
theorem SGoes.refl {w : World} {g : Nat} {a : AS} (h : Sq w g a) : SGoes g a w w := ⟨h, Chg.refl _ _⟩
theorem SGoes.of_below {w w' : World} {g : Nat} {a : AS} (h : Sq w g a) (hb : Below w.heap.size w w') : SGoes g a w w' := ⟨h.below hb (Holds.lt h), Chg.of_below _ hb⟩
theorem Wp.src {w0 w : World} {g : Nat} {a : AS} (h : Wp w0 g 74 (srcC a) w) : SGoes g a w0 w := ⟨h.node, h.chg⟩
theorem one_src (a : AS) : ∀ v ∈ (srcC a).toList, v.oneCell' = true := by
  intro v hv
  unfold srcC at hv
  simp only [List.mem_cons, List.not_mem_nil, or_false] at hv
  rcases hv with rfl | rfl | rfl | rfl | rfl | rfl | rfl <;> rfl
theorem one_asked (a b c d e f : Int) : ∀ v ∈ ([.int .i64 a, .int .i64 b, .int .i64 c, .int .i64 d, .int .u16 e, .int .i64 f] : List Value), v.oneCell' = true := by
  intro v hv
  simp only [List.mem_cons, List.not_mem_nil, or_false] at hv
  rcases hv with rfl | rfl | rfl | rfl | rfl | rfl <;> rfl
theorem snew_no (w : World) (lim : Int) (h : lim < 1 ∨ 1000 < lim) : Calls Try.prog 7 #[.int .i64 lim] w fun e w' => e = .returned (.tuple #[.pointer none, .int .i64 1]) ∧ w = w' := by
  rcases h with h | h
  · have d0 : decide (lim < 1) = true := decide_eq_true h
    go_enter Try.func7, Try.ntmps7
    go_wp2
    go_ret2
    exact ⟨rfl, rfl⟩
  · have d0 : decide (lim < 1) = false := decide_eq_false (by omega)
    have d1 : decide (1000 < lim) = true := decide_eq_true (by omega)
    go_enter Try.func7, Try.ntmps7
    go_wp2
    go_ret2
    exact ⟨rfl, rfl⟩
theorem snew_yes (w : World) (lim : Int) (h : 1 ≤ lim ∧ lim ≤ 1000) : Calls Try.prog 7 #[.int .i64 lim] w fun e w' => e = .returned (.tuple #[.pointer (some ⟨w.heap.size, 0, none⟩), .int .i64 0]) ∧ Sq w' w.heap.size (newA lim) ∧ Below w.heap.size w w' := by
  have d0 : decide (lim < 1) = false := decide_eq_false (by omega)
  have d1 : decide (1000 < lim) = false := decide_eq_false (by omega)
  go_enter Try.func7, Try.ntmps7
  go_wp2
  go_ret2
  exact ⟨rfl, Holds.new _ _ _, below_alloc _ _⟩
theorem sfresh_nil (w : World) : Calls Try.prog 18 #[.pointer none] w fun e w' => e = .returned (.bool false) ∧ w = w' := by
  go_enter Try.func18, Try.ntmps18
  go_wp2
  go_ret
  exact ⟨rfl, rfl⟩
theorem sfresh_any (w : World) (g : Nat) (a : AS) (h : Sq w g a) : Calls Try.prog 18 #[.pointer (some ⟨g, 0, none⟩)] w fun e w' => e = .returned (.bool (afreshB a)) ∧ w = w' := by
  have c6 := h.c6
  clear h
  unfold afreshB
  go_enter Try.func18, Try.ntmps18
  go_wp2
  go_ret
  exact ⟨rfl, rfl⟩
theorem sbeat_nil (w : World) : Calls Try.prog 12 #[.pointer none] w fun e w' => e = .returned (.tuple #[]) ∧ w = w' := by
  go_enter Try.func12, Try.ntmps12
  go_wp2_with (go_at_call 18; refine (sfresh_nil _).mono ?_; rintro e wx ⟨rfl, hwx⟩; subst wx)
  go_end0
  exact ⟨rfl, rfl⟩
theorem sbeat_any (w : World) (g : Nat) (a : AS) (h : Sq w g a) (hI : AInv a) : Calls Try.prog 12 #[.pointer (some ⟨g, 0, none⟩)] w fun e w' => e = .returned (.tuple #[]) ∧ SGoes g (beatA a) w w' := by
  have hl := hI.left
  have hm := hI.lim
  have hf := sfresh_any w g a h
  unfold afreshB at hf
  by_cases hp : 0 < a.left
  · have c6 := h.c6
    have f6 := Holds.soft h 6
    have ew := IntWalk.i64_in (a.left - 1) (by omega)
    have e : beatA a = { a with left := a.left - 1 } := if_pos hp
    have HE := Lib.hid (show SGoes g (beatA a) w _ from e ▸ Wp.src (a := { a with left := a.left - 1 }) (((Wp.start h).put 6 (.int .i64 (a.left - 1))).to rfl))
    rw [decide_eq_true hp] at hf
    clear h hI e
    go_enter Try.func12, Try.ntmps12
    go_wp2_with (go_at_call 18; refine hf.mono ?_; rintro e wx ⟨rfl, hwx⟩; subst wx)
    go_end0
    exact ⟨rfl, HE.out⟩
  · have HE := Lib.hid (show SGoes g (beatA a) w w from by rw [show beatA a = a from if_neg hp]; exact SGoes.refl h)
    rw [decide_eq_false hp] at hf
    clear h hI
    go_enter Try.func12, Try.ntmps12
    go_wp2_with (go_at_call 18; refine hf.mono ?_; rintro e wx ⟨rfl, hwx⟩; subst wx)
    go_end0
    exact ⟨rfl, HE.out⟩
end Go.Proofs.Ytgmeakcfiaopcaa

/- Package source: Put. -/
namespace Go.Proofs.Ytgmeakcfiaopcaa
open Go.RowKit
set_option linter.unusedVariables false
set_option linter.unusedSimpArgs false

/-- While an entry is put: the source, the entry's box, the other's. -/
structure Pk (w0 : World) (g : Nat) (a : AS) (e u : Array Value) (w : World) : Prop where
  src : Sq w g a
  ent : Holds w w0.heap.size 42 e
  who : Holds w (w0.heap.size + 1) 53 u
  chg : Chg (fun k => k = g) w0 w
  old : g < w0.heap.size
section
variable {w0 w w' : World} {g : Nat} {a a' : AS} {e u : Array Value}
theorem Pk.start (h : Sq w0 g a) (e u : Array Value) : Pk w0 g a e u ((w0.alloc (.cells e 42)).alloc (.cells u 53)) := by
  have h2 := Holds.new (w0.alloc (.cells e 42)) 53 u
  rw [size_alloc] at h2
  exact ⟨(Holds.alloc h _).alloc _, (Holds.new w0 _ _).alloc _, h2, Chg.of_below _ (((Below.refl _ _).alloc (Nat.le_refl _) _).alloc (by simp) _), Holds.lt h⟩
theorem Pk.below (h : Pk w0 g a e u w) (hb : Below w.heap.size w w') : Pk w0 g a e u w' :=
  ⟨h.src.below hb (Holds.lt h.src), h.ent.below hb h.ent.lt, h.who.below hb h.who.lt, h.chg.trans (Chg.of_below (fun _ => False) hb) (fun _ _ e => e.elim), h.old⟩
theorem Pk.drewN (h : Pk w0 g a e u w) (n : Nat) : Pk w0 g a e u (w.drewN n) := h.below (below_drewN (Below.refl _ _) n)
theorem Pk.put (h : Pk w0 g a e u w) : Pk w0 g a' e u (w.setRow g (srcC a').toList.toArray) := by
  have k := (Wp.start (w0 := w) (show Holds w g 74 (srcC a) from h.src)).row (srcC a').toList
  have ho := h.old
  exact ⟨k.node, h.ent.chg k.chg (fun e => by omega), h.who.chg k.chg (fun e => by omega), h.chg.trans k.chg (fun _ _ e => e), h.old⟩
theorem Pk.goes (h : Pk w0 g a e u w) : SGoes g a w0 w := ⟨h.src, h.chg⟩
end
theorem sput_nil (w : World) (lo off hp ro bo : Int) : Calls Try.prog 13 #[.pointer none, .agg #[.int .i64 lo, .int .i64 off, .int .i64 hp], .agg #[.int .i64 ro, .int .u16 bo]] w fun e w' => e = .returned (.int .i64 2) ∧ Below w.heap.size w w' := by
  have HB := Lib.hid (((Below.refl w.heap.size w).alloc (Nat.le_refl _) (.cells #[.int .i64 lo, .int .i64 off, .int .i64 hp] 42)).alloc (by simp) (.cells #[.int .i64 ro, .int .u16 bo] 53))
  go_enter Try.func13, Try.ntmps13
  go_wp2
  go_ret
  exact ⟨rfl, HB.out⟩
set_option maxHeartbeats 2000000 in
set_option maxRecDepth 100000 in
theorem sput_any (w : World) (g : Nat) (a : AS) (h : Sq w g a) (lo off hp ro bo : Int) : Calls Try.prog 13 #[.pointer (some ⟨g, 0, none⟩), .agg #[.int .i64 lo, .int .i64 off, .int .i64 hp], .agg #[.int .i64 ro, .int .u16 bo]] w fun e w' => e = .returned (.int .i64 (putV lo off hp ro)) ∧ SGoes g (putA a lo off hp ro bo) w w' := by
  have hst := Pk.start h #[.int .i64 lo, .int .i64 off, .int .i64 hp] #[.int .i64 ro, .int .u16 bo]
  obtain ⟨V, hV⟩ : ∃ V, V = (w.alloc (.cells #[.int .i64 lo, .int .i64 off, .int .i64 hp] 42)).alloc (.cells #[.int .i64 ro, .int .u16 bo] 53) := ⟨_, rfl⟩
  rw [← hV] at hst
  have HK := Lib.hid hst
  have x0 : V.cell? ⟨w.heap.size, 0, none⟩ = some (.int .i64 lo) := hst.ent.cell 0
  have x1 : V.cell? ⟨w.heap.size, 1, none⟩ = some (.int .i64 off) := hst.ent.cell 1
  have x2 : V.cell? ⟨w.heap.size, 2, none⟩ = some (.int .i64 hp) := hst.ent.cell 2
  have hway : (∃ v, (∀ W : World, Calls Try.prog 29 #[.agg #[.int .i64 lo, .int .i64 off, .int .i64 hp]] W fun e w' => e = .returned (.bool v) ∧ Below W.heap.size W w') ∧ putV lo off hp ro = 1 ∧ putA a lo off hp ro bo = a ∧ (v = false ∨ v = true ∧ decide (ro < 0) = true ∨ v = true ∧ decide (ro < 0) = false ∧ decide (64 ≤ ro) = true)) ∨
      ((∀ W : World, Calls Try.prog 29 #[.agg #[.int .i64 lo, .int .i64 off, .int .i64 hp]] W fun e w' => e = .returned (.bool true) ∧ Below W.heap.size W w') ∧ putV lo off hp ro = 0 ∧ putA a lo off hp ro bo = ⟨a.lim, lo, off, hp, ro, bo, a.lim⟩ ∧ decide (ro < 0) = false ∧ decide (64 ≤ ro) = false) := by
    unfold putV putA
    by_cases hc : CanE (lo, off, hp)
    · have hg := fun W => good_yes lo off hp W hc
      obtain ⟨h1, h2, h3, h4, h5, h6⟩ := hc
      dsimp only at h1 h2 h3 h4 h5 h6
      by_cases r0 : ro < 0
      · have e : ¬ putB lo off hp ro = true := fun k => by rw [putB_iff] at k; omega
        exact .inl ⟨true, hg, if_neg e, if_neg e, .inr (.inl ⟨rfl, decide_eq_true r0⟩)⟩
      · by_cases r1 : 64 ≤ ro
        · have e : ¬ putB lo off hp ro = true := fun k => by rw [putB_iff] at k; omega
          exact .inl ⟨true, hg, if_neg e, if_neg e, .inr (.inr ⟨rfl, decide_eq_false r0, decide_eq_true r1⟩)⟩
        · have e : putB lo off hp ro = true := by rw [putB_iff]; omega
          exact .inr ⟨hg, if_pos e, if_pos e, decide_eq_false r0, decide_eq_false r1⟩
    · have hg := fun W => good_no lo off hp W hc
      have e : ¬ putB lo off hp ro = true := fun k => by
        rw [putB_iff] at k
        refine hc ⟨?_, ?_, ?_, ?_, ?_, ?_⟩ <;> dsimp only <;> omega
      exact .inl ⟨false, hg, if_neg e, if_neg e, .inl rfl⟩
  obtain ⟨R, hR⟩ : ∃ R, putV lo off hp ro = R := ⟨_, rfl⟩
  obtain ⟨S', hS'⟩ : ∃ S', putA a lo off hp ro bo = S' := ⟨_, rfl⟩
  rw [hR, hS'] at hway ⊢
  clear h hst hR hS'
  rcases hway with ⟨v, hg, rfl, rfl, hv⟩ | ⟨hg, rfl, rfl, d0, d1⟩
  · rcases hv with rfl | ⟨rfl, d0⟩ | ⟨rfl, d0, d1⟩
    all_goals
      go_enter Try.func13, Try.ntmps13
      go_upto_region 1 with fail
      rw [← hV]
      clear hV
      go_wp2_with (go_at_call 29; refine (hg _).mono ?_; rintro e w1 ⟨rfl, hb1⟩; replace HK := Lib.hid (HK.out.below hb1); clear hb1; have y0 := HK.out.who.cell 0)
      go_ret
      exact ⟨rfl, HK.out.goes⟩
  · have c0 := HK.out.src.c0
    have HS := Lib.hid (fun W (hk : Pk w g a #[.int .i64 lo, .int .i64 off, .int .i64 hp] #[.int .i64 ro, .int .u16 bo] W) => show Holds W g 74 (srcC a).toList.toArray from hk.src)
    have hsp : splice (srcC a).toList 1 ([.int .i64 lo, .int .i64 off, .int .i64 hp, .int .i64 ro, .int .u16 bo, .int .i64 a.lim] : List Value) = (srcC ⟨a.lim, lo, off, hp, ro, bo, a.lim⟩).toList := rfl
    go_enter Try.func13, Try.ntmps13
    go_upto_region 1 with fail
    rw [← hV]
    clear hV c0
    go_upto_region 5 with (go_at_call 29; refine (hg _).mono ?_; rintro e w1 ⟨rfl, hb1⟩; replace HK := Lib.hid (HK.out.below hb1); clear hb1; have y0 := HK.out.who.cell 0)
    replace HK : Hid (Pk w g a _ _ w1.drew) := Lib.hid (HK.out.drewN 1)
    refine region_turns (fun (w' : World) => w'.cell? ⟨w.heap.size, 0, none⟩ = some (.int .i64 lo) ∧ w'.cell? ⟨w.heap.size, 1, none⟩ = some (.int .i64 off) ∧ w'.cell? ⟨w.heap.size, 2, none⟩ = some (.int .i64 hp) ∧ w'.cell? ⟨w.heap.size + 1, 0, none⟩ = some (.int .i64 ro) ∧ w'.cell? ⟨w.heap.size + 1, 1, none⟩ = some (.int .u16 bo) ∧ w'.cell? ⟨g, 0, none⟩ = some (.int .i64 a.lim)) (fun j => decide (11 ≤ j)) (by kernel_rfl) (⟨HK.out.ent.cell 0, HK.out.ent.cell 1, HK.out.ent.cell 2, HK.out.who.cell 0, HK.out.who.cell 1, HK.out.src.c0⟩) (fun hS => ?_)
    refine Turns.take hS 0 _ rfl (by kernel_rfl) (by kernel_rfl) (by kernel_rfl) (by kernel_rfl) (fun _ _ _ h => h) (by rfl) (fun w' hS' => by (try dsimp only at hS'); go_split_ands; go_simp; (try with_reducible rfl)) ?_
    simp only [Act.put, List.getElem_toArray, List.getElem_cons_succ, List.getElem_cons_zero, List.setIfInBounds_toArray, List.set_cons_zero, List.set_cons_succ]
    refine Turns.take hS 1 _ rfl (by kernel_rfl) (by kernel_rfl) (by kernel_rfl) (by kernel_rfl) (fun _ _ _ h => h) (by rfl) (fun w' hS' => by (try dsimp only at hS'); go_split_ands; go_simp; (try with_reducible rfl)) ?_
    simp only [Act.put, List.getElem_toArray, List.getElem_cons_succ, List.getElem_cons_zero, List.setIfInBounds_toArray, List.set_cons_zero, List.set_cons_succ]
    refine Turns.take hS 2 _ rfl (by kernel_rfl) (by kernel_rfl) (by kernel_rfl) (by kernel_rfl) (fun _ _ _ h => h) (by rfl) (fun w' hS' => by (try dsimp only at hS'); go_split_ands; go_simp; (try with_reducible rfl)) ?_
    simp only [Act.put, List.getElem_toArray, List.getElem_cons_succ, List.getElem_cons_zero, List.setIfInBounds_toArray, List.set_cons_zero, List.set_cons_succ]
    refine Turns.take hS 3 _ rfl (by kernel_rfl) (by kernel_rfl) (by kernel_rfl) (by kernel_rfl) (fun _ _ _ h => h) (by rfl) (fun w' hS' => by (try dsimp only at hS'); go_split_ands; go_simp; (try with_reducible rfl)) ?_
    simp only [Act.put, List.getElem_toArray, List.getElem_cons_succ, List.getElem_cons_zero, List.setIfInBounds_toArray, List.set_cons_zero, List.set_cons_succ]
    refine Turns.take hS 4 _ rfl (by kernel_rfl) (by kernel_rfl) (by kernel_rfl) (by kernel_rfl) (fun _ _ _ h => h) (by rfl) (fun w' hS' => by (try dsimp only at hS'); go_split_ands; go_simp; (try with_reducible rfl)) ?_
    simp only [Act.put, List.getElem_toArray, List.getElem_cons_succ, List.getElem_cons_zero, List.setIfInBounds_toArray, List.set_cons_zero, List.set_cons_succ]
    refine Turns.take hS 5 _ rfl (by kernel_rfl) (by kernel_rfl) (by kernel_rfl) (by kernel_rfl) (fun _ _ _ h => h) (by rfl) (fun w' hS' => by (try dsimp only at hS'); go_split_ands; go_simp; (try with_reducible rfl)) ?_
    simp only [Act.put, List.getElem_toArray, List.getElem_cons_succ, List.getElem_cons_zero, List.setIfInBounds_toArray, List.set_cons_zero, List.set_cons_succ]
    refine Turns.take hS 6 _ rfl (by kernel_rfl) (by kernel_rfl) (by kernel_rfl) (by kernel_rfl) (fun _ _ _ h => h) (by rfl) (fun w' hS' => by (try dsimp only at hS'); go_split_ands; go_simp; (try with_reducible rfl)) ?_
    simp only [Act.put, List.getElem_toArray, List.getElem_cons_succ, List.getElem_cons_zero, List.setIfInBounds_toArray, List.set_cons_zero, List.set_cons_succ]
    refine Turns.take hS 7 _ rfl (by kernel_rfl) (by kernel_rfl) (by kernel_rfl) (by kernel_rfl) (fun _ _ _ h => h) (by rfl) (fun w' hS' => by (try dsimp only at hS'); go_split_ands; go_simp; (try with_reducible rfl)) ?_
    simp only [Act.put, List.getElem_toArray, List.getElem_cons_succ, List.getElem_cons_zero, List.setIfInBounds_toArray, List.set_cons_zero, List.set_cons_succ]
    refine Turns.take hS 8 _ rfl (by kernel_rfl) (by kernel_rfl) (by kernel_rfl) (by kernel_rfl) (fun _ _ _ h => h) (by rfl) (fun w' hS' => by (try dsimp only at hS'); go_split_ands; go_simp; (try with_reducible rfl)) ?_
    simp only [Act.put, List.getElem_toArray, List.getElem_cons_succ, List.getElem_cons_zero, List.setIfInBounds_toArray, List.set_cons_zero, List.set_cons_succ]
    refine Turns.take hS 9 _ rfl (by kernel_rfl) (by kernel_rfl) (by kernel_rfl) (by kernel_rfl) (fun _ _ _ h => h) (by rfl) (fun w' hS' => by (try dsimp only at hS'); go_split_ands; go_simp; (try with_reducible rfl)) ?_
    simp only [Act.put, List.getElem_toArray, List.getElem_cons_succ, List.getElem_cons_zero, List.setIfInBounds_toArray, List.set_cons_zero, List.set_cons_succ]
    refine Turns.next 10 rfl (by kernel_rfl) (by rfl) (fun K hK => ?_)
    simp only [List.getElem_toArray, List.getElem_cons_succ, List.getElem_cons_zero]
    refine wp_store_at 72 (.tmp 31) (.tmp 29) rfl g 1 [.int .i64 lo, .int .i64 off, .int .i64 hp, .int .i64 ro, .int .u16 bo, .int .i64 a.lim] ?hs ?hx 74 (srcC a).toList (HS.out _ HK.out) (by kernel_rfl) (by show 7 ≤ 7; omega) (one_asked _ _ _ _ _ _) ?_
    case hs => first | rfl | simp [Act.eval, Act.put]
    case hx => first | rfl | simp [Act.eval, Act.put]
    rw [hsp]
    replace HK := Lib.hid (HK.out.put (a' := ⟨a.lim, lo, off, hp, ro, bo, a.lim⟩))
    obtain ⟨W3, hW3⟩ : ∃ W3, W3 = w1.drew.setRow g (srcC ⟨a.lim, lo, off, hp, ro, bo, a.lim⟩).toList.toArray := ⟨_, rfl⟩
    rw [← hW3] at HK ⊢
    clear hW3
    refine hK.out _ _ (show (fun (w' : World) => w'.cell? ⟨w.heap.size, 0, none⟩ = some (.int .i64 lo) ∧ w'.cell? ⟨w.heap.size, 1, none⟩ = some (.int .i64 off) ∧ w'.cell? ⟨w.heap.size, 2, none⟩ = some (.int .i64 hp) ∧ w'.cell? ⟨w.heap.size + 1, 0, none⟩ = some (.int .i64 ro) ∧ w'.cell? ⟨w.heap.size + 1, 1, none⟩ = some (.int .u16 bo) ∧ w'.cell? ⟨g, 0, none⟩ = some (.int .i64 a.lim)) _ from ⟨HK.out.ent.cell 0, HK.out.ent.cell 1, HK.out.ent.cell 2, HK.out.who.cell 0, HK.out.who.cell 1, HK.out.src.c0⟩) ?_
    clear hK K hS
    have hS := (show (fun (w' : World) => w'.cell? ⟨w.heap.size, 0, none⟩ = some (.int .i64 lo) ∧ w'.cell? ⟨w.heap.size, 1, none⟩ = some (.int .i64 off) ∧ w'.cell? ⟨w.heap.size, 2, none⟩ = some (.int .i64 hp) ∧ w'.cell? ⟨w.heap.size + 1, 0, none⟩ = some (.int .i64 ro) ∧ w'.cell? ⟨w.heap.size + 1, 1, none⟩ = some (.int .u16 bo) ∧ w'.cell? ⟨g, 0, none⟩ = some (.int .i64 a.lim)) _ from ⟨HK.out.ent.cell 0, HK.out.ent.cell 1, HK.out.ent.cell 2, HK.out.who.cell 0, HK.out.who.cell 1, HK.out.src.c0⟩)
    refine Turns.rest (late_done (by kernel_rfl)) ?_
    refine any_tail 11 (by rfl) (by kernel_rfl) ?_
    simp only [List.drop_succ_cons, List.drop_zero]
    clear hS
    go_wp2
    go_ret
    exact ⟨rfl, HK.out.goes⟩
end Go.Proofs.Ytgmeakcfiaopcaa

/- Package wrap's Next and Newer, and the document's, for all numbers. -/
namespace Go.Proofs.Ytgmeakcfiaopcaa
open Go.RowKit

/-- The number behind one. -/
def nextV (a : Int) : Int := (a + 1) % 65536
theorem next_any (a : Int) (w : World) :
    Calls Try.prog 39 #[.int .u16 a] w fun e w' => e = .returned (.int .u16 (nextV a)) ∧ w = w' := by
  go_enter Try.func39, Try.ntmps39
  go_wp2
  go_ret
  exact ⟨ret_int (by rw [wrap_u16]; rfl), rfl⟩
/-- Is a number newer? -/
def newB (a b : Int) : Bool := decide (1 ≤ (a - b) % 65536 ∧ (a - b) % 65536 ≤ 32767)
theorem newB_yes {a b : Int} (h : newB a b = true) : 1 ≤ (a - b) % 65536 ∧ (a - b) % 65536 ≤ 32767 := by simpa [newB] using h
theorem newB_no {a b : Int} (h : newB a b = false) : ¬ (1 ≤ (a - b) % 65536 ∧ (a - b) % 65536 ≤ 32767) := by
  unfold newB at h; exact of_decide_eq_false h
theorem newer_any (a b : Int) (w : World) :
    Calls Try.prog 45 #[.int .u16 a, .int .u16 b] w fun e w' => e = .returned (.bool (newB a b)) ∧ w = w' := by
  cases h : newB a b with
  | true =>
    have h1 := newB_yes h
    rw [← wrap_u16] at h1
    obtain ⟨h2, h3⟩ := h1
    have h4 : decide (IntKind.u16.wrap (a - b) < 32768) = true := decide_eq_true (by omega)
    clear h
    go_enter Try.func45, Try.ntmps45
    go_wp2
    go_ret
    exact ⟨rfl, rfl⟩
  | false =>
    have h1 := newB_no h
    rw [← wrap_u16] at h1
    by_cases h2 : 0 < IntKind.u16.wrap (a - b)
    · have h3 : decide (IntKind.u16.wrap (a - b) < 32768) = false := decide_eq_false (by omega)
      clear h h1
      go_enter Try.func45, Try.ntmps45
      go_wp2
      go_ret
      exact ⟨rfl, rfl⟩
    · clear h h1
      go_enter Try.func45, Try.ntmps45
      go_wp2
      go_ret
      exact ⟨rfl, rfl⟩
end Go.Proofs.Ytgmeakcfiaopcaa

/- Whose time a node goes by: what its calls make of its state, in plain terms. -/
namespace Go.Proofs.Ytgmeakcfiaopcaa
open Go.RowKit

/-- A node: itself, its rules, its life, its last number, its root, how long it waited, for how long it hears no other one, and what it knows of each root. -/
structure St where
  me : Int
  tmo : Int
  ign : Int
  boot : Int
  seq : Int
  root : Int
  waited : Int
  quiet : Int
  f : Int → Option (Int × Int)
/-- Is a mark newer? -/
def newM (b1 s1 b2 s2 : Int) : Bool := if b1 = b2 then newB s1 s2 else newB b1 b2
/-- Would it go by a root? -/
def heedB (s : St) (r : Int) : Bool := decide (0 ≤ r ∧ r < s.me ∧ if s.root = s.me then s.quiet = 0 else (s.root = -1 ∨ r ≤ s.root))
def freshB (s : St) (r b q : Int) : Bool := match s.f r with
  | none => true
  | some p => newM b q p.1 p.2
def takeB (s : St) (r b q : Int) : Bool := heedB s r && freshB s r b q
def movB (s : St) (r b : Int) : Bool := decide (r ≠ s.root ∨ b ≠ ((s.f r).getD (0, 0)).1)
def hearV (s : St) (r b q : Int) : Int := if takeB s r b q = true then (if movB s r b = true then 2 else 1) else 0
def hearS (s : St) (r b q : Int) : St := if takeB s r b q = true then { s with root := r, waited := 0, f := fun i => if i = r then some (b, q) else s.f i } else s
def beatB (s : St) : Bool := decide (s.root ≠ s.me ∧ s.tmo ≤ s.waited + 1)
def beatS (s : St) : St := if s.root = s.me then { s with quiet := max 0 (s.quiet - 1) } else if s.waited + 1 < s.tmo then { s with waited := s.waited + 1 } else { s with root := s.me, waited := 0, quiet := s.ign }
def issueS (s : St) : St := if s.root = s.me then { s with seq := nextV s.seq } else s
def issueV (s : St) : Int × Int := if s.root = s.me then (s.boot, nextV s.seq) else (0, 0)
def bootS (s : St) (b : Int) : St := { s with boot := b, seq := 0, root := -1, waited := 0, quiet := 0, f := fun _ => none }
def saidV (s : St) : Int × Int := if s.root = s.me then (s.boot, s.seq) else if s.root = -1 then (0, 0) else (s.f s.root).getD (0, 0)
def saidB (s : St) : Bool := decide (s.root = s.me ∧ s.seq ≠ 0 ∨ s.root ≠ s.me ∧ s.root ≠ -1)
def newS (me tmo ign b : Int) : St := ⟨me, tmo, ign, b, 0, -1, 0, 0, fun _ => none⟩
def goodB (me tmo ign : Int) : Bool := decide (0 ≤ me ∧ me < 64 ∧ 1 ≤ tmo ∧ tmo ≤ 1000 ∧ 0 ≤ ign ∧ ign ≤ 1000)
/-- What holds of every node. -/
structure Inv (s : St) : Prop where
  me : 0 ≤ s.me ∧ s.me < 64
  tmo : 1 ≤ s.tmo ∧ s.tmo ≤ 1000
  ign : 0 ≤ s.ign ∧ s.ign ≤ 1000
  boot : F16 s.boot
  seq : F16 s.seq
  root : -1 ≤ s.root ∧ s.root ≤ s.me
  knows : 0 ≤ s.root → s.root ≠ s.me → ∃ p, s.f s.root = some p
  waited : 0 ≤ s.waited ∧ s.waited < s.tmo
  quiet : 0 ≤ s.quiet ∧ s.quiet ≤ 1000
  still : s.root ≠ s.me → s.quiet = 0
  marks : ∀ i p, s.f i = some p → F16 p.1 ∧ F16 p.2

theorem newM_self (a b : Int) : newM a b a b = false := by
  unfold newM
  rw [if_pos rfl]
  unfold newB
  exact decide_eq_false (by omega)
theorem take_heed {s : St} {r b q : Int} (h : takeB s r b q = true) : heedB s r = true := by
  unfold takeB at h
  simp only [Bool.and_eq_true] at h
  exact h.1
theorem heed_iff (s : St) (r : Int) : heedB s r = true ↔ (0 ≤ r ∧ r < s.me ∧ if s.root = s.me then s.quiet = 0 else (s.root = -1 ∨ r ≤ s.root)) := by
  unfold heedB
  exact decide_eq_true_iff
theorem take_quiet {s : St} {r b q : Int} (hI : Inv s) (h : takeB s r b q = true) : s.quiet = 0 := by
  have h1 := (heed_iff s r).1 (take_heed h)
  by_cases e : s.root = s.me
  · simpa [e] using h1.2.2
  · exact hI.still e
theorem Inv.hear {s : St} (h : Inv s) {r b q : Int} (hb : F16 b) (hq : F16 q) : Inv (hearS s r b q) := by
  unfold hearS
  split
  · rename_i ht
    have h1 := (heed_iff s r).1 (take_heed ht)
    have h2 := take_quiet h ht
    have ht1 := h.tmo
    refine ⟨h.me, h.tmo, h.ign, h.boot, h.seq, ⟨?_, ?_⟩, fun _ _ => ⟨(b, q), ?_⟩, ⟨?_, ?_⟩, h.quiet, fun _ => h2, fun i p hp => ?_⟩
    · show -1 ≤ r
      omega
    · show r ≤ s.me
      omega
    · show (if r = r then some (b, q) else s.f r) = _
      rw [if_pos rfl]
    · exact Int.le_refl 0
    · show 0 < s.tmo
      omega
    · have hp' : (if i = r then some (b, q) else s.f i) = some p := hp
      split at hp'
      · cases hp'
        exact ⟨hb, hq⟩
      · exact h.marks i p hp'
  · exact h
theorem Inv.beat {s : St} (h : Inv s) : Inv (beatS s) := by
  have h1 := h.quiet
  have h2 := h.waited
  have h3 := h.ign
  have h4 := h.tmo
  have h5 := h.me
  unfold beatS
  split
  · rename_i e
    refine ⟨h.me, h.tmo, h.ign, h.boot, h.seq, h.root, h.knows, h.waited, ⟨?_, ?_⟩, fun hn => absurd e hn, h.marks⟩
    · show 0 ≤ max 0 (s.quiet - 1)
      omega
    · show max 0 (s.quiet - 1) ≤ 1000
      omega
  · rename_i e
    split
    · refine ⟨h.me, h.tmo, h.ign, h.boot, h.seq, h.root, h.knows, ⟨?_, ?_⟩, h.quiet, h.still, h.marks⟩
      · show 0 ≤ s.waited + 1
        omega
      · assumption
    · refine ⟨h.me, h.tmo, h.ign, h.boot, h.seq, ⟨?_, Int.le_refl _⟩, fun _ hn => absurd rfl hn, ⟨Int.le_refl 0, ?_⟩, h3, fun hn => absurd rfl hn, h.marks⟩
      · show -1 ≤ s.me
        omega
      · show 0 < s.tmo
        omega
theorem Inv.issue {s : St} (h : Inv s) : Inv (issueS s) := by
  unfold issueS
  split
  · refine ⟨h.me, h.tmo, h.ign, h.boot, ?_, h.root, h.knows, h.waited, h.quiet, h.still, h.marks⟩
    show F16 (nextV s.seq)
    unfold nextV F16
    omega
  · exact h
theorem Inv.reboot {s : St} (h : Inv s) {b : Int} (hb : F16 b) : Inv (bootS s b) := by
  have h4 := h.tmo
  have h5 := h.me
  refine ⟨h.me, h.tmo, h.ign, hb, (⟨by decide, by decide⟩ : F16 0), ⟨(by decide : (-1 : Int) ≤ -1), ?_⟩, fun (h0 : (0 : Int) ≤ -1) => absurd h0 (by decide), ⟨Int.le_refl 0, ?_⟩, ⟨(by decide : (0 : Int) ≤ 0), (by decide : (0 : Int) ≤ 1000)⟩, fun _ => rfl, fun i p hp => by cases hp⟩
  · show -1 ≤ s.me
    omega
  · show 0 < s.tmo
    omega
theorem good_iff (me tmo ign : Int) : goodB me tmo ign = true ↔ (0 ≤ me ∧ me < 64 ∧ 1 ≤ tmo ∧ tmo ≤ 1000 ∧ 0 ≤ ign ∧ ign ≤ 1000) := by
  unfold goodB
  exact decide_eq_true_iff
theorem Inv.new {me tmo ign b : Int} (h : goodB me tmo ign = true) (hb : F16 b) : Inv (newS me tmo ign b) := by
  obtain ⟨h1, h2, h3, h4, h5, h6⟩ := (good_iff me tmo ign).1 h
  refine ⟨⟨h1, h2⟩, ⟨h3, h4⟩, ⟨h5, h6⟩, hb, (⟨by decide, by decide⟩ : F16 0), ⟨(by decide : (-1 : Int) ≤ -1), ?_⟩, fun (h0 : (0 : Int) ≤ -1) => absurd h0 (by decide), ⟨Int.le_refl 0, ?_⟩, ⟨(by decide : (0 : Int) ≤ 0), (by decide : (0 : Int) ≤ 1000)⟩, fun _ => rfl, fun i p hp => by cases hp⟩
  · show -1 ≤ me
    omega
  · show 0 < tmo
    omega
theorem boot_new (me tmo ign b b' : Int) : bootS (newS me tmo ign b) b' = newS me tmo ign b' := rfl
end Go.Proofs.Ytgmeakcfiaopcaa

/- The marks that a node knows: a map of its own. -/
namespace Go.Proofs.Ytgmeakcfiaopcaa
open Go.RowKit Go.Maps
set_option linter.unusedVariables false
set_option linter.unusedSimpArgs false

def markV (p : Int × Int) : Value := .agg #[.int .u16 p.1, .int .u16 p.2]
def markR (v : Value) : Option (DataW Value × List MemPlace) := some (.held v, [])
theorem keyed : Keyed Try.prog 3 := int_keyed Try.underlying3
theorem zeroM (w : World) : (zeroValue 80).run Try.prog w = .ok (markV (0, 0)) w := by kernel_rfl
/-- Block b is a map that tells f, of at most n entries. -/
def KM (w : World) (b n : Nat) (f : Int → Option (Int × Int)) : Prop :=
  ∃ D, w.ownsMap Try.prog 3 markR b n D ∧ (∃ es, D = .map es) ∧ ∀ i, has D (.int .i64 i) = (f i).isSome ∧ ∀ p, f i = some p → ∀ z, D.atKey (.int .i64 i) z = .held (markV p)
section
variable {w w' : World} {b n : Nat} {f : Int → Option (Int × Int)}
theorem KM.made (w : World) : KM (w.alloc (.map #[] 0)) w.heap.size 0 fun _ => none :=
  ⟨.map [], World.ownsMap_made _ _ _ _, ⟨[], rfl⟩, fun i => ⟨rfl, fun p hp => by cases hp⟩⟩
theorem KM.lt (h : KM w b n f) : b < w.heap.size := by
  obtain ⟨D, h1, _⟩ := h
  exact h1.lt
theorem KM.mono (h : KM w b n f) {n' : Nat} (hn : n ≤ n') : KM w b n' f := by
  obtain ⟨D, h1, h2⟩ := h
  exact ⟨D, h1.mono hn, h2⟩
theorem KM.same (h : KM w b n f) (hb : w'.heap[b]? = w.heap[b]?) : KM w' b n f := by
  obtain ⟨D, ⟨es, clock, h1, h2⟩, h3⟩ := h
  exact ⟨D, ⟨es, clock, hb.trans h1, h2⟩, h3⟩
theorem KM.chg {S : Nat → Prop} (h : KM w b n f) (hc : Chg S w w') (hn : ¬ S b) : KM w' b n f := h.same (hc.block b h.lt hn)
theorem KM.below {B : Nat} (h : KM w b n f) (hb : Below B w w') (hB : b < B) : KM w' b n f := h.same (hb.block b hB)
theorem KM.apart (h : KM w b n f) {g : Nat} {t : TypeId} {cs : Array Value} (hg : Holds w g t cs) : g ≠ b := by
  rintro rfl
  obtain ⟨D, ⟨es, clock, h1, _⟩, _⟩ := h
  have e : some (Obj.cells cs t (0, 0)) = some (Obj.map es clock) := hg.symm.trans h1
  cases e
theorem KM.far (h : KM w b n f) {g i : Nat} (hb : b ≠ g) (u : Value) : KM (w.setCell ⟨g, i, none⟩ u) b n f := h.same (Below.heap_setCell w ⟨g, i, none⟩ u b hb)
theorem KM.data {D : DataW Value} (h : ∃ es, D = DataW.map es) (hh : ∀ i, has D (.int .i64 i) = (f i).isSome ∧ ∀ p, f i = some p → ∀ z, D.atKey (.int .i64 i) z = .held (markV p)) (r : Int) : D.atKey (.int .i64 r) (.held (markV (0, 0))) = (.held (markV ((f r).getD (0, 0))) : DataW Value) := by
  obtain ⟨h1, h2⟩ := hh r
  cases hf : f r with
  | none =>
    rw [hf] at h1
    exact atKey_of_not_has h1 _
  | some p => exact h2 p hf _
theorem KM.look (h : KM w b n f) (r : Int) (hr : (Lit.int .i64 r).wf = true) : (Instr.lookup 86 (.map (some b)) (.int .i64 r) true).run Try.prog w = .ok (.tuple #[markV ((f r).getD (0, 0)), .bool (f r).isSome]) w := by
  obtain ⟨D, h1, h2, h3⟩ := h
  obtain ⟨v, ps, e1, e2⟩ := h1.look_ok keyed Try.underlying86 (zeroM w) (zd := .held (markV (0, 0))) (zp := []) rfl (keyOf_int_mk Try.underlying3 hr)
  rw [KM.data h2 h3] at e2
  simp only [markR, Option.some.injEq, Prod.mk.injEq, DataW.held.injEq] at e2
  rw [e1, e2.1, (h3 r).1]
theorem KM.get (h : KM w b n f) (r : Int) (hr : (Lit.int .i64 r).wf = true) : (Instr.lookup 86 (.map (some b)) (.int .i64 r) false).run Try.prog w = .ok (markV ((f r).getD (0, 0))) w := by
  obtain ⟨D, h1, h2, h3⟩ := h
  obtain ⟨v, ps, e1, e2⟩ := h1.lookup keyed Try.underlying86 (zeroM w) (zd := .held (markV (0, 0))) (zp := []) rfl (keyOf_int_mk Try.underlying3 hr)
  rw [KM.data h2 h3] at e2
  simp only [markR, Option.some.injEq, Prod.mk.injEq, DataW.held.injEq] at e2
  rw [e1, e2.1]
theorem KM.put (h : KM w b n f) (hn : n ≤ 100000) (r : Int) (hr : (Lit.int .i64 r).wf = true) (p : Int × Int) : ∃ w', (Instr.mapUpdate 86 (.map (some b)) (.int .i64 r) (markV p)).run Try.prog w = .ok () w' ∧ KM w' b (n + 1) (fun i => if i = r then some p else f i) ∧ w.grownBy w' (some b) := by
  obtain ⟨D, h1, h2, h3⟩ := h
  obtain ⟨w', e1, e2, e3⟩ := h1.update keyed Try.underlying86 (by unfold maxLen; omega) (val := markV p) (d := .held (markV p)) (ps := []) (keyOf_int_mk Try.underlying3 hr) rfl
  have hk : WideAt.IsKeyLit (.int .i64 r) := keyed.key (keyOf_int_mk Try.underlying3 hr)
  refine ⟨w', e1, ⟨_, e2, IsMap.put h2 _ _, fun i => ?_⟩, e3⟩
  by_cases hi : i = r
  · subst hi
    simp only [if_pos rfl]
    refine ⟨has_put_same h2 hk _, fun q hq z => ?_⟩
    cases hq
    exact atKey_put_same h2 hk _ _
  · have hne : Lit.int IntKind.i64 i ≠ Lit.int IntKind.i64 r := fun e => hi (by cases e; rfl)
    simp only [if_neg hi]
    refine ⟨(has_put_other hne _).trans (h3 i).1, fun q hq z => (atKey_put_other hne _ _).trans ((h3 i).2 q hq z)⟩
end
end Go.Proofs.Ytgmeakcfiaopcaa

/- Package elect: a node, and what it tells. -/
namespace Go.Proofs.Ytgmeakcfiaopcaa
open Go.RowKit
set_option linter.unusedVariables false
set_option linter.unusedSimpArgs false

def nodeC (s : St) (b : Nat) : Array Value := #[.int .i64 s.me, .int .i64 s.tmo, .int .i64 s.ign, .int .u16 s.boot, .int .u16 s.seq, .int .i64 s.root, .int .i64 s.waited, .int .i64 s.quiet, .map (some b)]
/-- A node at block g, what it knows at block b. -/
structure En (w : World) (B g b n : Nat) (s : St) : Prop where
  newer : B ≤ g ∧ B ≤ b
  holds : Holds w g 88 (nodeC s b)
  km : KM w b n s.f
  inv : Inv s
/-- The blocks of a node. -/
def epart (g b : Nat) : Nat → Prop := fun k => k = g ∨ k = b
/-- What became of a node: nothing else changed, and its blocks are those that it had, or new. -/
def ENow (B g b n : Nat) (s : St) (w w' : World) : Prop := ∃ b', En w' B g b' n s ∧ Chg (epart g b) w w' ∧ (b' = b ∨ w.heap.size ≤ b')
section
variable {w w' : World} {B g b n : Nat} {s : St}
theorem En.lt (h : En w B g b n s) : g < w.heap.size := h.holds.lt
theorem En.ltb (h : En w B g b n s) : b < w.heap.size := h.km.lt
theorem En.ne (h : En w B g b n s) : g ≠ b := h.km.apart h.holds
theorem En.chg {S : Nat → Prop} (h : En w B g b n s) (hc : Chg S w w') (hn : ∀ k, epart g b k → ¬ S k) : En w' B g b n s := ⟨h.newer, h.holds.chg hc (hn g (.inl rfl)), h.km.chg hc (hn b (.inr rfl)), h.inv⟩
theorem En.below (h : En w B g b n s) (hb : Below w.heap.size w w') : En w' B g b n s := h.chg (Chg.of_below (fun _ => False) hb) (fun _ _ h => h)
theorem En.drewN (h : En w B g b n s) (m : Nat) : En (w.drewN m) B g b n s := h.below (below_drewN (Below.refl _ _) m)
theorem En.mono (h : En w B g b n s) {n' : Nat} (hn : n ≤ n') : En w B g b n' s := ⟨h.newer, h.holds, h.km.mono hn, h.inv⟩
theorem En.cells (h : En w B g b n s) : w.cell? ⟨g, 0, none⟩ = some (.int .i64 s.me) ∧ w.cell? ⟨g, 1, none⟩ = some (.int .i64 s.tmo) ∧ w.cell? ⟨g, 2, none⟩ = some (.int .i64 s.ign) ∧ w.cell? ⟨g, 3, none⟩ = some (.int .u16 s.boot) ∧
    w.cell? ⟨g, 4, none⟩ = some (.int .u16 s.seq) ∧ w.cell? ⟨g, 5, none⟩ = some (.int .i64 s.root) ∧ w.cell? ⟨g, 6, none⟩ = some (.int .i64 s.waited) ∧ w.cell? ⟨g, 7, none⟩ = some (.int .i64 s.quiet) ∧ w.cell? ⟨g, 8, none⟩ = some (.map (some b)) :=
  ⟨h.holds.cell 0, h.holds.cell 1, h.holds.cell 2, h.holds.cell 3, h.holds.cell 4, h.holds.cell 5, h.holds.cell 6, h.holds.cell 7, h.holds.cell 8⟩
theorem ENow.of_below (h : ENow B g b n s w w') {u : World} (hb : Below w'.heap.size w' u) : ENow B g b n s w u := by
  obtain ⟨b', ht, hc, hp⟩ := h
  exact ⟨b', ht.below hb, hc.trans (Chg.of_below (fun _ => False) hb) (fun _ _ h => h.elim), hp⟩
theorem ENow.after {u : World} (hb : Below w.heap.size w u) (h : ENow B g b n s u w') : ENow B g b n s w w' := by
  obtain ⟨b', ht, hc, hp⟩ := h
  exact ⟨b', ht, (Chg.of_below (epart g b) hb).trans hc (fun _ _ h => h), hp.imp id (fun h => Nat.le_trans hb.size h)⟩
theorem ENow.refl (h : En w B g b n s) : ENow B g b n s w w := ⟨b, h, Chg.refl _ _, .inl rfl⟩
theorem ENow.mono (h : ENow B g b n s w w') {n' : Nat} (hn : n ≤ n') : ENow B g b n' s w w' := by
  obtain ⟨b', ht, hc, hp⟩ := h
  exact ⟨b', ht.mono hn, hc, hp⟩
/-- All that the law made lies at B and behind it. -/
theorem ENow.law {W : World} {n0 : Nat} {s0 : St} (h : ENow B g b n s w w') (h0 : En w B g b n0 s0) (hb : Below B W w) : Below B W w' := by
  obtain ⟨b', ht, hc, hp⟩ := h
  refine Below.chg hb hc ?_ (fun k hk => ?_)
  · have := h0.newer
    have := h0.lt
    omega
  · rcases hk with rfl | rfl
    · exact h0.newer.1
    · exact h0.newer.2
theorem En.at (h : En w B g b n s) {B' : Nat} (hg : B' ≤ g) (hb : B' ≤ b) : En w B' g b n s := ⟨⟨hg, hb⟩, h.holds, h.km, h.inv⟩
/-- Nothing of a node changed but its first cells: they are another state's. -/
theorem En.put (h : En w B g b n s) (i : Nat) (u : Value) {s' : St} (hs : (nodeC s b).setIfInBounds i u = nodeC s' b) (hf : s'.f = s.f) (hi : Inv s') : En (w.setCell ⟨g, i, none⟩ u) B g b n s' :=
  ⟨h.newer, by rw [← hs]; exact h.holds.put i u, by rw [hf]; exact h.km.far h.ne.symm u, hi⟩
end
theorem eroot_any (w : World) (B g b n : Nat) (s : St) (h : En w B g b n s) : Calls Try.prog 16 #[.pointer (some ⟨g, 0, none⟩)] w fun e w' => e = .returned (.int .i64 s.root) ∧ w = w' := by
  obtain ⟨_, _, _, _, _, c5, _⟩ := h.cells
  clear h
  go_enter Try.func16, Try.ntmps16
  go_wp2
  go_ret
  exact ⟨rfl, rfl⟩
theorem eroot_nil (w : World) : Calls Try.prog 16 #[.pointer none] w fun e w' => e = .returned (.int .i64 (-1)) ∧ w = w' := by
  go_enter Try.func16, Try.ntmps16
  go_wp2
  go_ret
  exact ⟨rfl, rfl⟩
theorem emine_any (w : World) (B g b n : Nat) (s : St) (h : En w B g b n s) : Calls Try.prog 17 #[.pointer (some ⟨g, 0, none⟩)] w fun e w' => e = .returned (.bool (decide (s.root = s.me))) ∧ ∃ nq, w' = w.drewN nq := by
  obtain ⟨c0, _, _, _, _, c5, _⟩ := h.cells
  clear h
  by_cases hm : s.root = s.me
  · rw [decide_eq_true hm]
    have d : (s.root == s.me) = true := by simp [hm]
    clear hm
    go_enter Try.func17, Try.ntmps17
    go_wp2
    go_quiet (fail)
    go_wp2
    go_ret
    exact ⟨rfl, _, rfl⟩
  · rw [decide_eq_false hm]
    have d : (s.root == s.me) = false := by simp [hm]
    clear hm
    go_enter Try.func17, Try.ntmps17
    go_wp2
    go_quiet (fail)
    go_wp2
    go_ret
    exact ⟨rfl, _, rfl⟩
theorem emine_nil (w : World) : Calls Try.prog 17 #[.pointer none] w fun e w' => e = .returned (.bool false) ∧ ∃ nq, w' = w.drewN nq := by
  go_enter Try.func17, Try.ntmps17
  go_wp2
  go_quiet (fail)
  go_wp2
  go_ret
  exact ⟨rfl, _, rfl⟩
theorem newB_self (a : Int) : newB a a = false := by
  unfold newB
  exact decide_eq_false (by omega)
theorem mnewer_any (w : World) (b1 s1 b2 s2 : Int) : Calls Try.prog 36 #[markV (b1, s1), markV (b2, s2)] w fun e w' => e = .returned (.bool (newM b1 s1 b2 s2)) ∧ Below w.heap.size w w' := by
  unfold markV
  simp only []
  have hb : Below w.heap.size w ((w.alloc (.cells #[.int .u16 b1, .int .u16 s1] 80)).alloc (.cells #[.int .u16 b2, .int .u16 s2] 80)) := (below_alloc w _).alloc (by simp) _
  have hx := newer_any b1 b2
  have hy := newer_any s1 s2
  by_cases he : b1 = b2
  · have e1 : newM b1 s1 b2 s2 = newB s1 s2 := by unfold newM; rw [if_pos he]
    rw [e1]
    have e2 : newB b1 b2 = false := by rw [he]; exact newB_self _
    have d : (b1 == b2) = true := by simp [he]
    rw [e2] at hx
    obtain ⟨V, hV⟩ : ∃ V, newB s1 s2 = V := ⟨_, rfl⟩
    rw [hV] at hy ⊢
    clear he e1 e2 hV
    cases V <;>
    · go_enter Try.func36, Try.ntmps36
      go_wp2_with (first
        | (go_at_call 45; (with_reducible refine (hx _).mono ?_); rintro e w' ⟨rfl, rfl⟩)
        | (go_at_call 45; (with_reducible refine (hy _).mono ?_); rintro e w' ⟨rfl, rfl⟩))
      go_ret
      exact ⟨rfl, hb⟩
  · have e1 : newM b1 s1 b2 s2 = newB b1 b2 := by unfold newM; rw [if_neg he]
    rw [e1]
    have d : (b1 == b2) = false := by simp [he]
    obtain ⟨V, hV⟩ : ∃ V, newB b1 b2 = V := ⟨_, rfl⟩
    rw [hV] at hx ⊢
    clear he e1 hV
    cases V <;>
    · go_enter Try.func36, Try.ntmps36
      go_wp2_with (first
        | (go_at_call 45; (with_reducible refine (hx _).mono ?_); rintro e w' ⟨rfl, rfl⟩))
      go_ret
      exact ⟨rfl, hb⟩
/-- What heeds answers. -/
theorem heed_yes {s : St} {r : Int} (h : 0 ≤ r ∧ r < s.me ∧ if s.root = s.me then s.quiet = 0 else (s.root = -1 ∨ r ≤ s.root)) : heedB s r = true := (heed_iff s r).2 h
theorem heed_no {s : St} {r : Int} (h : ¬ (0 ≤ r ∧ r < s.me ∧ if s.root = s.me then s.quiet = 0 else (s.root = -1 ∨ r ≤ s.root))) : heedB s r = false := by
  unfold heedB
  exact decide_eq_false h
theorem heeds_any (w : World) (B g b n : Nat) (s : St) (h : En w B g b n s) (r : Int) : Calls Try.prog 35 #[.pointer (some ⟨g, 0, none⟩), .int .i64 r] w fun e w' => e = .returned (.bool (heedB s r)) ∧ ∃ nq, w' = w.drewN nq := by
  obtain ⟨c0, _, _, _, _, c5, _, c7, _⟩ := h.cells
  have hm := fun m => emine_any (w.drewN m) B g b n s (h.drewN m)
  have hm0 := emine_any w B g b n s h
  have hbd := h.inv.root
  clear h
  by_cases h0 : r < 0
  · rw [heed_no (by omega)]
    go_enter Try.func35, Try.ntmps35
    go_wp2
    go_ret
    exact ⟨rfl, 0, rfl⟩
  · have d0 : decide (r < 0) = false := decide_eq_false h0
    by_cases h1 : s.me ≤ r
    · rw [heed_no (by omega)]
      have d1 : decide (s.me ≤ r) = true := decide_eq_true h1
      go_enter Try.func35, Try.ntmps35
      go_wp2
      go_ret
      exact ⟨rfl, 0, rfl⟩
    · have d1 : decide (s.me ≤ r) = false := decide_eq_false h1
      by_cases h2 : s.root = s.me
      · rw [decide_eq_true h2] at hm0
        by_cases h3 : s.quiet = 0
        · rw [heed_yes (by rw [if_pos h2]; omega)]
          have d3 : (s.quiet == 0) = true := by simp [h3]
          clear h2 h3
          go_enter Try.func35, Try.ntmps35
          go_wp2_with (go_at_call 17; refine hm0.mono ?_; rintro e w' ⟨rfl, nq, rfl⟩)
          go_ret
          exact ⟨rfl, _, rfl⟩
        · rw [heed_no (by rw [if_pos h2]; omega)]
          have d3 : (s.quiet == 0) = false := by simp [h3]
          clear h2 h3
          go_enter Try.func35, Try.ntmps35
          go_wp2_with (go_at_call 17; refine hm0.mono ?_; rintro e w' ⟨rfl, nq, rfl⟩)
          go_ret
          exact ⟨rfl, _, rfl⟩
      · rw [decide_eq_false h2] at hm0
        by_cases h3 : s.root = -1
        · rw [heed_yes (by rw [if_neg h2]; omega)]
          have d3 : (s.root == -1) = true := by simp [h3]
          clear h2 h3
          go_enter Try.func35, Try.ntmps35
          go_wp2_with (go_at_call 17; refine hm0.mono ?_; rintro e w' ⟨rfl, nq, rfl⟩)
          go_ret
          exact ⟨rfl, _, rfl⟩
        · have d3 : (s.root == -1) = false := by simp [h3]
          by_cases h4 : r ≤ s.root
          · rw [heed_yes (by rw [if_neg h2]; omega)]
            have d4 : decide (r ≤ s.root) = true := decide_eq_true h4
            clear h2 h3
            go_enter Try.func35, Try.ntmps35
            go_wp2_with (go_at_call 17; refine hm0.mono ?_; rintro e w' ⟨rfl, nq, rfl⟩)
            go_ret
            exact ⟨rfl, _, rfl⟩
          · rw [heed_no (by rw [if_neg h2]; omega)]
            have d4 : decide (r ≤ s.root) = false := decide_eq_false h4
            clear h2 h3
            go_enter Try.func35, Try.ntmps35
            go_wp2_with (go_at_call 17; refine hm0.mono ?_; rintro e w' ⟨rfl, nq, rfl⟩)
            go_ret
            exact ⟨rfl, _, rfl⟩
/-- Can there be such rules? -/
def rulesB (tmo ign : Int) : Bool := decide (1 ≤ tmo ∧ tmo ≤ 1000 ∧ 0 ≤ ign ∧ ign ≤ 1000)
theorem rules_any (w : World) (tmo ign : Int) : Calls Try.prog 33 #[.agg #[.int .i64 tmo, .int .i64 ign]] w fun e w' => e = .returned (.bool (rulesB tmo ign)) ∧ Below w.heap.size w w' := by
  have hb : Below w.heap.size w (w.alloc (.cells #[.int .i64 tmo, .int .i64 ign] 34)) := below_alloc w _
  by_cases h1 : 1 ≤ tmo
  · have d1 : decide (1 ≤ tmo) = true := decide_eq_true h1
    by_cases h2 : tmo ≤ 1000
    · have d2 : decide (tmo ≤ 1000) = true := decide_eq_true h2
      by_cases h3 : 0 ≤ ign
      · have d3 : decide (0 ≤ ign) = true := decide_eq_true h3
        by_cases h4 : ign ≤ 1000
        · have d4 : decide (ign ≤ 1000) = true := decide_eq_true h4
          have e : rulesB tmo ign = true := decide_eq_true ⟨h1, h2, h3, h4⟩
          rw [e]
          clear e
          go_enter Try.func33, Try.ntmps33
          go_wp2
          go_ret
          exact ⟨rfl, hb⟩
        · have d4 : decide (ign ≤ 1000) = false := decide_eq_false h4
          have e : rulesB tmo ign = false := decide_eq_false (by omega)
          rw [e]
          clear e
          go_enter Try.func33, Try.ntmps33
          go_wp2
          go_ret
          exact ⟨rfl, hb⟩
      · have d3 : decide (0 ≤ ign) = false := decide_eq_false h3
        have e : rulesB tmo ign = false := decide_eq_false (by omega)
        rw [e]
        clear e
        go_enter Try.func33, Try.ntmps33
        go_wp2
        go_ret
        exact ⟨rfl, hb⟩
    · have d2 : decide (tmo ≤ 1000) = false := decide_eq_false h2
      have e : rulesB tmo ign = false := decide_eq_false (by omega)
      rw [e]
      clear e
      go_enter Try.func33, Try.ntmps33
      go_wp2
      go_ret
      exact ⟨rfl, hb⟩
  · have d1 : decide (1 ≤ tmo) = false := decide_eq_false h1
    have e : rulesB tmo ign = false := decide_eq_false (by omega)
    rw [e]
    clear e
    go_enter Try.func33, Try.ntmps33
    go_wp2
    go_ret
    exact ⟨rfl, hb⟩
end Go.Proofs.Ytgmeakcfiaopcaa

/- Package elect: a word is heard. -/
namespace Go.Proofs.Ytgmeakcfiaopcaa
open Go.RowKit
set_option linter.unusedVariables false
set_option linter.unusedSimpArgs false

/-- What Hear answers, and what becomes of the node. -/
def Heard (B g b n : Nat) (s : St) (r x q : Int) (w : World) (e : Ending) (w' : World) : Prop := e = .returned (.int .i64 (hearV s r x q)) ∧ ENow B g b (n + 1) (hearS s r x q) w w'
theorem hear_nil (w : World) (r x q : Int) : Calls Try.prog 22 #[.pointer none, .int .i64 r, .agg #[.int .u16 x, .int .u16 q]] w fun e w' => e = .returned (.int .i64 0) ∧ Below w.heap.size w w' := by
  have hb : Below w.heap.size w (w.alloc (.cells #[.int .u16 x, .int .u16 q] 80)) := below_alloc w _
  go_enter Try.func22, Try.ntmps22
  go_wp2
  go_ret
  exact ⟨rfl, hb⟩
/-- A word is refused. -/
theorem hear_no {B g b n : Nat} {s : St} {r x q : Int} (w w' : World) (h : En w B g b n s) (ht : takeB s r x q = false) (hb : Below w.heap.size w w') : Heard B g b n s r x q w (.returned (.int .i64 0)) w' := by
  unfold Heard hearV hearS
  rw [ht]
  exact ⟨rfl, ((ENow.refl h).of_below hb).mono (Nat.le_succ n)⟩
/-- A word is taken. -/
theorem hear_yes {B g b n : Nat} {s : St} {r x q v : Int} {w u w1 : World} (h : En w B g b n s) (hx : F16 x) (hq : F16 q) (ht : takeB s r x q = true) (hv : (if movB s r x = true then 2 else 1) = v) (hb : Below w.heap.size w u)
    (hk : KM w1 b (n + 1) (fun i => if i = r then some (x, q) else s.f i)) (hg : u.grownBy w1 (some b)) : Heard B g b n s r x q w (.returned (.int .i64 v)) ((w1.setCell ⟨g, 5, none⟩ (.int .i64 r)).setCell ⟨g, 6, none⟩ (.int .i64 0)) := by
  have hi := h.inv.hear (r := r) hx hq
  unfold Heard hearV
  unfold hearS at hi ⊢
  rw [ht] at hi ⊢
  simp only [if_pos] at hi ⊢
  have hne := h.ne
  have h1 : Holds w1 g 88 (nodeC s b) := (h.below hb).holds.grown hg (by simpa using hne)
  refine ⟨by rw [hv], b, ⟨h.newer, ?_, (hk.far hne.symm _).far hne.symm _, hi⟩, ?_, .inl rfl⟩
  · exact (h1.put 5 (.int .i64 r)).put 6 (.int .i64 0)
  · have c1 : Chg (epart g b) u w1 := Chg.of_grown hg (fun k e => by cases e; exact .inr rfl)
    have c2 := Chg.set w1 g 5 (.int .i64 r) (S := epart g b) (.inl rfl)
    have c3 := Chg.set (w1.setCell ⟨g, 5, none⟩ (.int .i64 r)) g 6 (.int .i64 0) (S := epart g b) (.inl rfl)
    exact (((Chg.of_below (epart g b) hb).trans c1 (fun _ _ h => h)).trans c2 (fun _ _ h => h)).trans c3 (fun _ _ h => h)
theorem hear_tail {B g b n : Nat} {s : St} {r x q v : Int} {w : World} (h : En w B g b n s) (hn : n ≤ 100000) (hr : (Lit.int .i64 r).wf = true) (hx : F16 x) (hq : F16 q) (ht : takeB s r x q = true) (hv : (if movB s r x = true then 2 else 1) = v) (V : World) (hb : Below w.heap.size w V) (hX : Holds V w.heap.size 80 #[.int .u16 x, .int .u16 q]) :
    V.drew.cell? ⟨w.heap.size, 0, none⟩ = some (.int .u16 x) ∧ V.drew.cell? ⟨w.heap.size, 1, none⟩ = some (.int .u16 q) ∧ V.drew.cell? ⟨g, 8, none⟩ = some (.map (some b)) ∧
    ∃ w1, (Instr.mapUpdate 86 (.map (some b)) (.int .i64 r) (.agg #[.int .u16 x, .int .u16 q])).run Try.prog V.drew = .ok () w1 ∧ w1.cell? ⟨g, 5, none⟩ = some (.int .i64 s.root) ∧ w1.frozen? ⟨g, 5, none⟩ = false ∧
      w1.cell? ⟨g, 6, none⟩ = some (.int .i64 s.waited) ∧ w1.frozen? ⟨g, 6, none⟩ = false ∧ Hid (Heard B g b n s r x q w (.returned (.int .i64 v)) ((w1.setCell ⟨g, 5, none⟩ (.int .i64 r)).setCell ⟨g, 6, none⟩ (.int .i64 0))) := by
  have hu : Below w.heap.size w V.drew := hb.drew
  obtain ⟨w1, e1, hk, hg⟩ := (h.below hu).km.put hn r hr (x, q)
  have h1 : Holds w1 g 88 (nodeC s b) := (h.below hu).holds.grown hg (by simpa using h.ne)
  exact ⟨hX.cell 0, hX.cell 1, (h.below hu).holds.cell 8, w1, e1, h1.cell 5, h1.soft 5, h1.cell 6, h1.soft 6, Lib.hid (hear_yes h hx hq ht hv hu hk hg)⟩
theorem hear_any (w : World) (B g b n : Nat) (s : St) (h : En w B g b n s) (hn : n ≤ 100000) (r x q : Int) (hr : (Lit.int .i64 r).wf = true) (hx : F16 x) (hq : F16 q) : Calls Try.prog 22 #[.pointer (some ⟨g, 0, none⟩), .int .i64 r, .agg #[.int .u16 x, .int .u16 q]] w (Heard B g b n s r x q w) := by
  have hbw := h.newer
  have hgl := h.lt
  have hbl := h.ltb
  obtain ⟨w0, hw0⟩ : ∃ w0, w0 = w.alloc (.cells #[.int .u16 x, .int .u16 q] 80) := ⟨_, rfl⟩
  have hb0 : Below w.heap.size w w0 := by rw [hw0]; exact below_alloc w _
  have hbox : Holds w0 w.heap.size 80 #[.int .u16 x, .int .u16 q] := by rw [hw0]; exact Holds.new _ _ _
  have h0 := h.below hb0
  have hheed := heeds_any w0 B g b n s h0 r
  have hno := fun w' (ht : takeB s r x q = false) hb => hear_no (r := r) (x := x) (q := q) w w' h ht hb
  cases hh : heedB s r with
  | false =>
    rw [hh] at hheed
    have ht : takeB s r x q = false := by unfold takeB; rw [hh]; rfl
    have HNo := Lib.hid (fun w' => hno w' ht)
    have HB0 := Lib.hid hb0
    clear hno ht hh h0 hbox hb0 h
    rw [hw0] at hheed
    go_enter Try.func22, Try.ntmps22
    go_wp2_with (go_at_call 35; refine hheed.mono ?_; rintro e w' ⟨rfl, nq, rfl⟩)
    go_ret
    exact HNo.out _ (by rw [← hw0]; exact below_drewN HB0.out nq)
  | true =>
    rw [hh] at hheed
    obtain ⟨hr0, hr1, _⟩ := (heed_iff s r).1 hh
    have hknow := h.inv.knows
    cases hf : s.f r with
    | none =>
      have ht : takeB s r x q = true := by unfold takeB freshB; rw [hh, hf]; rfl
      have hne : r ≠ s.root := by
        rintro rfl
        obtain ⟨p, hp⟩ := hknow hr0 (by omega)
        rw [hf] at hp
        cases hp
      have hv : (if movB s r x = true then 2 else 1) = (2 : Int) := by
        unfold movB
        rw [decide_eq_true (.inl hne)]
        rfl
      have htail := hear_tail h hn hr hx hq ht hv
      have hlk := fun m => (h0.drewN m).km.look r hr
      rw [hf] at hlk
      simp only [markV, Option.getD_none, Option.isSome_none] at hlk
      obtain ⟨c0, _, _, _, _, c5, _, _, c8⟩ := h0.cells
      have d5 : (r != s.root) = true := by simp [hne]
      have HT := Lib.hid htail
      have HB0 := Lib.hid hb0
      have HBX := Lib.hid hbox
      clear htail hb0 hbox hf hv ht hno h h0 hknow hh
      rw [hw0] at hheed c0 c5 c8
      rw [hw0] at hlk
      go_enter Try.func22, Try.ntmps22
      go_upto_region 7 with (go_at_call 35; refine hheed.mono ?_; rintro e w' ⟨rfl, nq, rfl⟩)
      have hV := (below_drewN HB0.out nq).alloc (o := .cells #[.int .u16 0, .int .u16 0] 80) (below_drewN HB0.out nq).size
      have hX := (HBX.out.drewN nq).alloc (.cells #[.int .u16 0, .int .u16 0] 80)
      rw [hw0] at hV hX
      clear hw0 HB0 HBX hlk c0 c5 c8 hheed
      generalize (((w.alloc (.cells #[.int .u16 x, .int .u16 q] 80)).drewN nq).alloc (.cells #[.int .u16 0, .int .u16 0] 80)) = V at *
      obtain ⟨x0, x1, k8, w1, e1, k5, f5, k6, f6, HF⟩ := HT.out V hV hX
      clear HT hV hX
      go_region
      go_wp2
      go_ret
      exact HF.out
    | some p =>
      obtain ⟨p1, p2⟩ := p
      have hlk := fun m => (h0.drewN m).km.look r hr
      rw [hf] at hlk
      simp only [markV, Option.getD_some, Option.isSome_some] at hlk
      have hfresh : freshB s r x q = newM x q p1 p2 := by unfold freshB; rw [hf]
      have hnew := fun W => mnewer_any W x q p1 p2
      unfold markV at hnew
      simp only [] at hnew
      obtain ⟨c0, _, _, _, _, c5, _, _, c8⟩ := h0.cells
      cases hnn : newM x q p1 p2 with
      | false =>
        have ht : takeB s r x q = false := by unfold takeB; rw [hh, hfresh, hnn]; rfl
        have HNo := Lib.hid (fun w' => hno w' ht)
        have HB0 := Lib.hid hb0
        have hh' := below_drewN hb0
        rw [hnn] at hnew
        clear hno ht hh h0 hbox hb0 h hf hfresh hnn hknow hh'
        rw [hw0] at hheed c0 c5 c8
        rw [hw0] at hlk
        go_enter Try.func22, Try.ntmps22
        go_wp2_with (first
          | (go_at_call 35; refine hheed.mono ?_; rintro e w' ⟨rfl, nq, rfl⟩)
          | (go_at_call 36; (with_reducible refine (hnew _).mono ?_); rintro e w' ⟨rfl, hb'⟩))
        go_ret
        have hV := (below_drewN HB0.out nq).alloc (o := .cells #[.int .u16 p1, .int .u16 p2] 80) (below_drewN HB0.out nq).size
        rw [hw0] at hV
        exact HNo.out _ (hV.trans (hb'.mono hV.size))
      | true =>
        have ht : takeB s r x q = true := by unfold takeB; rw [hh, hfresh, hnn]; rfl
        rw [hnn] at hnew
        have hcase : ∃ v : Int, (if movB s r x = true then 2 else 1) = v ∧ (((r != s.root) = true ∧ v = 2) ∨ ((r != s.root) = false ∧ (x != p1) = true ∧ v = 2) ∨ ((r != s.root) = false ∧ (x != p1) = false ∧ v = 1)) := by
          unfold movB
          rw [hf]
          simp only [Option.getD_some]
          by_cases hne : r = s.root <;> by_cases hxx : x = p1 <;> simp [hne, hxx]
        obtain ⟨v, hv, hcase⟩ := hcase
        have htail := hear_tail h hn hr hx hq ht hv
        have HT := Lib.hid htail
        have HB0 := Lib.hid hb0
        have HBX := Lib.hid hbox
        have HE := Lib.hid h0
        clear htail hb0 hbox hf hv ht hno h h0 hknow hh hfresh hnn
        rw [hw0] at hheed c0 c5 c8
        rw [hw0] at hlk
        have hstep : ∀ nq w', Below (((w0.drewN nq).alloc (.cells #[.int .u16 p1, .int .u16 p2] 80)).heap.size) ((w0.drewN nq).alloc (.cells #[.int .u16 p1, .int .u16 p2] 80)) w' →
            Below w.heap.size w w' ∧ Holds w' w.heap.size 80 #[.int .u16 x, .int .u16 q] ∧ Holds w' (w.heap.size + 1) 80 #[.int .u16 p1, .int .u16 p2] ∧ w'.cell? ⟨g, 5, none⟩ = some (.int .i64 s.root) := fun nq w' hb' => by
          have hs0 : w0.heap.size = w.heap.size + 1 := by rw [hw0, size_alloc]
          have hV := (below_drewN HB0.out nq).alloc (o := .cells #[.int .u16 p1, .int .u16 p2] 80) (below_drewN HB0.out nq).size
          have hX := (HBX.out.drewN nq).alloc (.cells #[.int .u16 p1, .int .u16 p2] 80)
          have hP := Holds.new (w0.drewN nq) 80 #[.int .u16 p1, .int .u16 p2]
          have hG := (HE.out.drewN nq).holds.alloc (.cells #[.int .u16 p1, .int .u16 p2] 80)
          have hP' : Holds ((w0.drewN nq).alloc (.cells #[.int .u16 p1, .int .u16 p2] 80)) (w.heap.size + 1) 80 #[.int .u16 p1, .int .u16 p2] := by
            rw [← hs0]
            exact hP
          exact ⟨hV.trans (hb'.mono hV.size), hX.below hb' hX.lt, hP'.below hb' hP'.lt, (hG.below hb' hG.lt).cell 5⟩
        rw [hw0] at hstep
        clear HB0 HBX HE hw0
        rcases hcase with ⟨d5, rfl⟩ | ⟨d5, dx, rfl⟩ | ⟨d5, dx, rfl⟩ <;>
        · go_enter Try.func22, Try.ntmps22
          go_upto_region 7 with (first
            | (go_at_call 35; refine hheed.mono ?_; rintro e w' ⟨rfl, nq, rfl⟩)
            | (go_at_call 36; (with_reducible refine (hnew _).mono ?_); rintro e V ⟨rfl, hb'⟩; obtain ⟨hV, hX, hP, k5⟩ := hstep nq V hb'; have x0 := hX.cell 0; have x1 := hX.cell 1; have p0 := hP.cell 0; have p1 := hP.cell 1))
          obtain ⟨x0, x1, k8, w1, e1, k5, f5, k6, f6, HF⟩ := HT.out V hV hX
          clear HT hV hX hP p0 p1 hstep
          go_region
          go_wp2
          go_ret
          exact HF.out
end Go.Proofs.Ytgmeakcfiaopcaa

/- Package elect: rounds, words of its own, new lives, new nodes. -/
namespace Go.Proofs.Ytgmeakcfiaopcaa
open Go.RowKit
set_option linter.unusedVariables false
set_option linter.unusedSimpArgs false

theorem beat_nil (w : World) : Calls Try.prog 25 #[.pointer none] w fun e w' => e = .returned (.bool false) ∧ w = w' := by
  go_enter Try.func25, Try.ntmps25
  go_wp2
  go_ret
  exact ⟨rfl, rfl⟩
theorem gself (w : World) (row : Option Nat) : w.grownBy w row := ⟨rfl, rfl, rfl, Nat.le_refl _, fun _ _ _ => rfl⟩
theorem gset (w : World) (nq g i : Nat) (u : Value) : w.grownBy ((w.drewN nq).setCell ⟨g, i, none⟩ u) (some g) := grown_trans (grown_drewN (gself w (some g)) nq) (grown_set _ _ _ _)
/-- What Beat answers, and what becomes of the node. -/
def Beaten (B g b n : Nat) (s : St) (w : World) (e : Ending) (w' : World) : Prop := e = .returned (.bool (beatB s)) ∧ ENow B g b n (beatS s) w w'
theorem ENow.of_grown {w w' : World} {B g b n : Nat} {s' : St} (h : En w' B g b n s') (hg : w.grownBy w' (some g)) : ENow B g b n s' w w' := ⟨b, h, Chg.of_grown hg (fun k e => by cases e; exact .inl rfl), .inl rfl⟩
theorem beat_tail {w : World} {B g b n : Nat} {s : St} (h : En w B g b n s) (hi : Inv { s with root := s.me, waited := 0, quiet := s.ign }) (V : World) (hV : Holds V g 88 (nodeC { s with waited := s.waited + 1 } b)) (hg : w.grownBy V (some g)) :
    V.cell? ⟨g, 0, none⟩ = some (.int .i64 s.me) ∧ V.cell? ⟨g, 2, none⟩ = some (.int .i64 s.ign) ∧ V.cell? ⟨g, 5, none⟩ = some (.int .i64 s.root) ∧ V.cell? ⟨g, 6, none⟩ = some (.int .i64 (s.waited + 1)) ∧ V.cell? ⟨g, 7, none⟩ = some (.int .i64 s.quiet) ∧
    V.frozen? ⟨g, 5, none⟩ = false ∧ V.frozen? ⟨g, 6, none⟩ = false ∧ V.frozen? ⟨g, 7, none⟩ = false ∧
    Hid (ENow B g b n { s with root := s.me, waited := 0, quiet := s.ign } w (((V.setCell ⟨g, 5, none⟩ (.int .i64 s.me)).setCell ⟨g, 6, none⟩ (.int .i64 0)).setCell ⟨g, 7, none⟩ (.int .i64 s.ign))) := by
  have hd : Holds V g 88 (nodeC { s with waited := s.waited + 1 } b) := hV
  have h1 := ((hd.put 5 (.int .i64 s.me)).put 6 (.int .i64 0)).put 7 (.int .i64 s.ign)
  have g1 : w.grownBy V (some g) := hg
  have g2 := grown_trans (grown_trans (grown_trans g1 (grown_set _ g 5 (.int .i64 s.me))) (grown_set _ g 6 (.int .i64 0))) (grown_set _ g 7 (.int .i64 s.ign))
  exact ⟨hd.cell 0, hd.cell 2, hd.cell 5, hd.cell 6, hd.cell 7, hd.soft 5, hd.soft 6, hd.soft 7, Lib.hid (ENow.of_grown ⟨h.newer, h1, h.km.same (g2.block b h.ltb (by simpa using h.ne.symm)), hi⟩ g2)⟩
theorem beat_any (w : World) (B g b n : Nat) (s : St) (h : En w B g b n s) : Calls Try.prog 25 #[.pointer (some ⟨g, 0, none⟩)] w (Beaten B g b n s w) := by
  have hm := emine_any w B g b n s h
  obtain ⟨q0, q1⟩ := h.inv.quiet
  obtain ⟨t0, t1⟩ := h.inv.waited
  obtain ⟨o0, o1⟩ := h.inv.tmo
  by_cases hr : s.root = s.me
  · rw [decide_eq_true hr] at hm
    have hB : beatB s = false := by unfold beatB; exact decide_eq_false (fun e => e.1 hr)
    have hI := h.inv.beat
    have hS : beatS s = { s with quiet := max 0 (s.quiet - 1) } := by unfold beatS; rw [if_pos hr]
    rw [hS] at hI
    unfold Beaten
    rw [hB, hS]
    have hfin := fun (nq : Nat) (V : Int) (hV : max 0 (s.quiet - 1) = V) => (h.drewN nq).put 7 (.int .i64 V) (s' := { s with quiet := max 0 (s.quiet - 1) }) (by rw [hV]; rfl) rfl hI
    have HF := Lib.hid hfin
    have hcl := fun nq => (h.drewN nq).cells
    have f7 := fun nq => (h.drewN nq).holds.soft 7
    obtain ⟨_, _, _, _, _, _, _, c7, _⟩ := h.cells
    have e1 := IntWalk.i64_in (s.quiet - 1) (by omega)
    have f7 := h.holds.soft 7
    clear h hI hS hB hfin hcl hr
    by_cases hq : s.quiet = 0
    · have hd : decide (0 < s.quiet - 1) = false := decide_eq_false (by omega)
      go_enter Try.func25, Try.ntmps25
      go_wp2_with (go_at_call 17; refine hm.mono ?_; rintro e w' ⟨rfl, nq, rfl⟩)
      go_ret
      exact ⟨rfl, ENow.of_grown (HF.out nq _ (by omega)) (gset _ _ _ _ _)⟩
    · have hd : ¬ s.quiet - 1 < 0 := by omega
      have hd2 : decide (s.quiet - 1 < 0) = false := decide_eq_false (by omega)
      go_enter Try.func25, Try.ntmps25
      go_wp2_with (go_at_call 17; refine hm.mono ?_; rintro e w' ⟨rfl, nq, rfl⟩)
      all_goals go_ret
      all_goals exact ⟨rfl, ENow.of_grown (HF.out nq _ (by omega)) (gset _ _ _ _ _)⟩
  · rw [decide_eq_false hr] at hm
    have e1 := IntWalk.i64_in (s.waited + 1) (by omega)
    have hcl := fun nq => (h.drewN nq).cells
    have f6 := fun nq => (h.drewN nq).holds.soft 6
    have hI := h.inv.beat
    have hset : ∀ nq, Holds ((w.drewN nq).setCell ⟨g, 6, none⟩ (.int .i64 (s.waited + 1))) g 88 (nodeC { s with waited := s.waited + 1 } b) := fun nq => (h.drewN nq).holds.put 6 _
    obtain ⟨_, c1, _, _, _, _, c6, _, _⟩ := h.cells
    have f6 := h.holds.soft 6
    by_cases hlt : s.waited + 1 < s.tmo
    · have hB : beatB s = false := by unfold beatB; exact decide_eq_false (fun e => by omega)
      have hS : beatS s = { s with waited := s.waited + 1 } := by unfold beatS; rw [if_neg hr, if_pos hlt]
      rw [hS] at hI
      unfold Beaten
      rw [hB, hS]
      have hfin := fun (nq : Nat) => (h.drewN nq).put 6 (.int .i64 (s.waited + 1)) (s' := { s with waited := s.waited + 1 }) rfl rfl hI
      have HF := Lib.hid hfin
      have HS := Lib.hid hset
      have d1 : decide (s.waited + 1 < s.tmo) = true := decide_eq_true hlt
      clear hr hB hS hI hfin hset h hcl
      go_enter Try.func25, Try.ntmps25
      go_upto_region 7 with (go_at_call 17; refine hm.mono ?_; rintro e w' ⟨rfl, n0, rfl⟩)
      have k1 : ((w.drewN n0).setCell ⟨g, 6, none⟩ (.int .i64 (s.waited + 1))).cell? ⟨g, 1, none⟩ = some (.int .i64 s.tmo) := (HS.out n0).cell 1
      have k6 : ((w.drewN n0).setCell ⟨g, 6, none⟩ (.int .i64 (s.waited + 1))).cell? ⟨g, 6, none⟩ = some (.int .i64 (s.waited + 1)) := (HS.out n0).cell 6
      go_quiet (fail)
      go_wp2
      go_ret
      exact ⟨rfl, (ENow.of_grown (HF.out _) (gset _ _ _ _ _)).of_below (below_drewN (Below.refl _ _) _)⟩
    · have hB : beatB s = true := by unfold beatB; exact decide_eq_true ⟨hr, by omega⟩
      have hS : beatS s = { s with root := s.me, waited := 0, quiet := s.ign } := by unfold beatS; rw [if_neg hr, if_neg hlt]
      rw [hS] at hI
      unfold Beaten
      rw [hB, hS]
      have hfin := beat_tail h hI
      have HF := Lib.hid hfin
      have HS := Lib.hid hset
      have d1 : decide (s.waited + 1 < s.tmo) = false := decide_eq_false hlt
      clear hr hB hS hI hfin hset h hcl
      go_enter Try.func25, Try.ntmps25
      go_upto_region 7 with (go_at_call 17; refine hm.mono ?_; rintro e w' ⟨rfl, n0, rfl⟩)
      have k1 : ((w.drewN n0).setCell ⟨g, 6, none⟩ (.int .i64 (s.waited + 1))).cell? ⟨g, 1, none⟩ = some (.int .i64 s.tmo) := (HS.out n0).cell 1
      have k6 : ((w.drewN n0).setCell ⟨g, 6, none⟩ (.int .i64 (s.waited + 1))).cell? ⟨g, 6, none⟩ = some (.int .i64 (s.waited + 1)) := (HS.out n0).cell 6
      go_quiet (fail)
      go_upto_region 9 with fail
      have hV := ((HS.out n0).drewN nq)
      have hg := grown_drewN (gset w n0 g 6 (.int .i64 (s.waited + 1))) nq
      obtain ⟨y0, y2, y5, y6, y7, z5, z6, z7, HN⟩ := HF.out _ hV hg
      clear HF HS k1 k6 hm f6
      generalize (((w.drewN n0).setCell ⟨g, 6, none⟩ (.int .i64 (s.waited + 1))).drewN nq) = V at *
      clear hV hg
      go_region
      go_wp2
      go_ret
      exact ⟨rfl, HN.out.of_below (Below.refl _ _).drew⟩
end Go.Proofs.Ytgmeakcfiaopcaa

/- Package elect: words of its own, what it tells of its root's. -/
namespace Go.Proofs.Ytgmeakcfiaopcaa
open Go.RowKit
set_option linter.unusedVariables false
set_option linter.unusedSimpArgs false

theorem wf_of {n : Int} (h0 : -9223372036854775808 ≤ n) (h1 : n ≤ 9223372036854775807) : (Lit.int .i64 n).wf = true := WalkArith.wf_i64 (by omega)
theorem mark_size : (Try.prog.info? 80).map (·.size) = some 2 := by kernel_rfl
/-- The end of a call that answers a mark, which lies in a variable of its own, and whether. -/
theorem end_mark {fn : Func} {p u : Tmp} {R : Ending → World → Prop} {a : Act} {w : World} {g : Nat} {x y : Int} {c : Bool} (h : fn.results = #[.cell p 80, .tmp u]) (hp : a.tmps.getD p undef = .pointer (some ⟨g, 0, none⟩)) (hv : a.tmps.getD u undef = .bool c)
    (hg : Holds w g 80 #[.int .u16 x, .int .u16 y]) (hd : a.defers = []) (hR : R (.returned (.tuple #[markV (x, y), .bool c])) w) : bodyPost Try.prog fn R .ret a w :=
  bodyPost_ret (results_row_tmp h _ _ g 80 [.int .u16 x, .int .u16 y] _ _ hp hg Try.underlying80 rfl mark_size hv) hd hR
theorem Box.put2 {w V : World} {t : TypeId} {a b : Value} (h : Box w t #[a, b] V) (x y : Value) : Box w t #[x, y] ((V.setCell ⟨w.heap.size, 0, none⟩ x).setCell ⟨w.heap.size, 1, none⟩ y) :=
  ⟨(h.holds.put 0 x).put 1 y, (h.below.setCell (p := ⟨w.heap.size, 0, none⟩) (Nat.le_refl _) x).setCell (p := ⟨w.heap.size, 1, none⟩) (Nat.le_refl _) y⟩
def zeroC : Array Value := #[.int .u16 0, .int .u16 0]
/-- What Issue answers, and what becomes of the node. -/
def Issued (B g b n : Nat) (s : St) (w : World) (e : Ending) (w' : World) : Prop := e = .returned (.tuple #[markV (issueV s), .bool (decide (s.root = s.me))]) ∧ ENow B g b n (issueS s) w w'
theorem issue_nil (w : World) : Calls Try.prog 26 #[.pointer none] w fun e w' => e = .returned (.tuple #[markV (0, 0), .bool false]) ∧ Below w.heap.size w w' := by
  have HX := Lib.hid (Box.start w 80 #[.int .u16 0, .int .u16 0])
  go_enter Try.func26, Try.ntmps26
  go_wp2_with (go_at_call 17; refine (emine_nil _).mono ?_; rintro e w' ⟨rfl, nq, rfl⟩)
  (try simp only [Exit.inBlock, Exit.then])
  have hE := (HX.out.drewN nq).put2 (.int .u16 0) (.int .u16 0)
  refine end_mark rfl rfl rfl hE.holds rfl ?_
  exact ⟨rfl, hE.below⟩
theorem issue_tail {w : World} {B g b n : Nat} {s : St} (h : En w B g b n s) (hr : s.root = s.me) (nq : Nat) :
    let V := ((w.alloc (.cells #[.int .u16 0, .int .u16 0] 80)).drewN nq).setCell ⟨g, 4, none⟩ (.int .u16 (nextV s.seq))
    let F := (V.setCell ⟨w.heap.size, 0, none⟩ (.int .u16 s.boot)).setCell ⟨w.heap.size, 1, none⟩ (.int .u16 (nextV s.seq))
    V.cell? ⟨g, 3, none⟩ = some (.int .u16 s.boot) ∧ V.cell? ⟨g, 4, none⟩ = some (.int .u16 (nextV s.seq)) ∧ V.cell? ⟨w.heap.size, 0, none⟩ = some (.int .u16 0) ∧ V.cell? ⟨w.heap.size, 1, none⟩ = some (.int .u16 0) ∧ V.frozen? ⟨w.heap.size, 0, none⟩ = false ∧ V.frozen? ⟨w.heap.size, 1, none⟩ = false ∧
    Hid (Holds F w.heap.size 80 #[.int .u16 s.boot, .int .u16 (nextV s.seq)] ∧ ENow B g b n (issueS s) w F) := by
  intro V F
  have hgl := h.lt
  have hbl := h.ltb
  have hb0 : Below w.heap.size w ((w.alloc (.cells #[.int .u16 0, .int .u16 0] 80)).drewN nq) := below_drewN (below_alloc w _) nq
  have h0 := h.below hb0
  have hI := h.inv.issue
  have hS : issueS s = { s with seq := nextV s.seq } := by unfold issueS; rw [if_pos hr]
  rw [hS] at hI ⊢
  have h1 : En V B g b n { s with seq := nextV s.seq } := h0.put 4 (.int .u16 (nextV s.seq)) rfl rfl hI
  have r0 : Holds V w.heap.size 80 #[.int .u16 0, .int .u16 0] := Holds.far ((Holds.new w _ _).drewN nq) (by omega) _
  have r1 : Holds F w.heap.size 80 #[.int .u16 s.boot, .int .u16 (nextV s.seq)] := (r0.put 0 _).put 1 _
  have cF : Chg (fun k => k = w.heap.size) V F := (Chg.set V w.heap.size 0 _ (S := fun k => k = w.heap.size) rfl).trans (Chg.set _ w.heap.size 1 _ (S := fun k => k = w.heap.size) rfl) (fun _ _ h => h)
  refine ⟨h1.holds.cell 3, h1.holds.cell 4, r0.cell 0, r0.cell 1, r0.soft 0, r0.soft 1, Lib.hid ⟨r1, b, h1.chg cF (fun k hk e => ?_), ?_, .inl rfl⟩⟩
  · rcases hk with rfl | rfl <;> omega
  · exact ((Chg.of_below (epart g b) hb0).trans (Chg.set _ g 4 _ (S := epart g b) (.inl rfl)) (fun _ _ h => h)).trans cF (fun k hk e => by omega)
theorem issue_any (w : World) (B g b n : Nat) (s : St) (h : En w B g b n s) : Calls Try.prog 26 #[.pointer (some ⟨g, 0, none⟩)] w (Issued B g b n s w) := by
  have HX := Lib.hid (Box.start w 80 #[.int .u16 0, .int .u16 0])
  have h0 := h.below (below_alloc w (.cells #[.int .u16 0, .int .u16 0] 80))
  have hm := emine_any _ B g b n s h0
  unfold Issued
  by_cases hr : s.root = s.me
  · have hV : issueV s = (s.boot, nextV s.seq) := by unfold issueV; rw [if_pos hr]
    have HT := Lib.hid (fun nq => issue_tail h hr nq)
    rw [hV]
    rw [decide_eq_true hr] at hm ⊢
    have hnx := fun W => next_any s.seq W
    obtain ⟨_, _, _, _, c4, _⟩ := h0.cells
    have f4 := h0.holds.soft 4
    obtain ⟨N, hN⟩ : ∃ N, nextV s.seq = N := ⟨_, rfl⟩
    simp only [hN] at hnx HT ⊢
    clear h h0 hr hV hN
    go_enter Try.func26, Try.ntmps26
    go_upto_region 4 with (first
      | (go_at_call 17; refine hm.mono ?_; rintro e w' ⟨rfl, nq, rfl⟩)
      | (go_at_call 39; refine (hnx _).mono ?_; rintro e w' ⟨rfl, rfl⟩))
    obtain ⟨k3, k4, r0, r1, z0, z1, HF⟩ := HT.out nq
    go_region
    go_wp2
    (try simp only [Exit.inBlock, Exit.then])
    refine end_mark rfl rfl rfl (HF.out.1.drewN 1) rfl ?_
    exact ⟨rfl, HF.out.2.of_below (Below.refl _ _).drew⟩
  · have hV : issueV s = (0, 0) := by unfold issueV; rw [if_neg hr]
    have hS : issueS s = s := by unfold issueS; rw [if_neg hr]
    rw [hV, hS]
    rw [decide_eq_false hr] at hm ⊢
    have HE := Lib.hid h
    clear hV hS hr h h0
    go_enter Try.func26, Try.ntmps26
    go_wp2_with (go_at_call 17; refine hm.mono ?_; rintro e w' ⟨rfl, nq, rfl⟩)
    (try simp only [Exit.inBlock, Exit.then])
    have hE := (HX.out.drewN nq).put2 (.int .u16 0) (.int .u16 0)
    refine end_mark rfl rfl rfl hE.holds rfl ?_
    exact ⟨rfl, (ENow.refl HE.out).of_below hE.below⟩
theorem emark_nil (w : World) : Calls Try.prog 40 #[.pointer none] w fun e w' => e = .returned (.tuple #[markV (0, 0), .bool false]) ∧ Below w.heap.size w w' := by
  have HX := Lib.hid (Box.start w 80 #[.int .u16 0, .int .u16 0])
  go_enter Try.func40, Try.ntmps40
  go_wp2_with (first
    | (go_at_call 17; refine (emine_nil _).mono ?_; rintro e w' ⟨rfl, nq, rfl⟩)
    | (go_at_call 16; refine (eroot_nil _).mono ?_; rintro e w' ⟨rfl, rfl⟩))
  (try simp only [Exit.inBlock, Exit.then])
  have hE := (HX.out.drewN nq).put2 (.int .u16 0) (.int .u16 0)
  refine end_mark rfl rfl rfl hE.holds rfl ?_
  exact ⟨rfl, hE.below⟩
theorem emark_any (w : World) (B g b n : Nat) (s : St) (h : En w B g b n s) : Calls Try.prog 40 #[.pointer (some ⟨g, 0, none⟩)] w fun e w' => e = .returned (.tuple #[markV (saidV s), .bool (saidB s)]) ∧ Below w.heap.size w w' := by
  have HX := Lib.hid (Box.start w 80 #[.int .u16 0, .int .u16 0])
  have h0 := h.below (below_alloc w (.cells #[.int .u16 0, .int .u16 0] 80))
  have hm := emine_any _ B g b n s h0
  have hroot := fun m => eroot_any _ B g b n s (h0.drewN m)
  obtain ⟨r0, r1⟩ := h.inv.root
  obtain ⟨m0, m1⟩ := h.inv.me
  by_cases hr : s.root = s.me
  · rw [decide_eq_true hr] at hm
    have hV : saidV s = (s.boot, s.seq) := by unfold saidV; rw [if_pos hr]
    have hB : saidB s = decide (s.seq ≠ 0) := by unfold saidB; simp [hr]
    rw [hV, hB]
    have dq : (s.seq != 0) = decide (s.seq ≠ 0) := by by_cases e : s.seq = 0 <;> simp [e]
    obtain ⟨_, _, _, c3, c4, _⟩ := h0.cells
    obtain ⟨q, hq⟩ : ∃ q, decide (s.seq ≠ 0) = q := ⟨_, rfl⟩
    rw [hq] at dq ⊢
    clear h h0 hr hV hB hq hroot
    have x0 := HX.out.holds.cell 0
    have x1 := HX.out.holds.cell 1
    have z0 := HX.out.holds.soft 0
    have z1 := HX.out.holds.soft 1
    go_enter Try.func40, Try.ntmps40
    go_upto_region 2 with (go_at_call 17; refine hm.mono ?_; rintro e w' ⟨rfl, nq, rfl⟩)
    go_region
    go_wp2
    (try simp only [Exit.inBlock, Exit.then])
    have hE := (HX.out.drewN nq).put2 (.int .u16 s.boot) (.int .u16 s.seq)
    refine end_mark rfl rfl rfl (hE.holds.drewN 1) rfl ?_
    exact ⟨rfl, hE.below.drew⟩
  · rw [decide_eq_false hr] at hm
    by_cases hn : s.root = -1
    · have hV : saidV s = (0, 0) := by unfold saidV; rw [if_neg hr, if_pos hn]
      have hB : saidB s = false := by unfold saidB; simp [hr, hn]; omega
      have dn : (s.root == -1) = true := by simp [hn]
      rw [hV, hB]
      clear h h0 hr hV hB hn
      go_enter Try.func40, Try.ntmps40
      go_wp2_with (first
        | (go_at_call 17; refine hm.mono ?_; rintro e w' ⟨rfl, nq, rfl⟩)
        | (go_at_call 16; refine (hroot _).mono ?_; rintro e w' ⟨rfl, rfl⟩))
      (try simp only [Exit.inBlock, Exit.then])
      have hE := (HX.out.drewN nq).put2 (.int .u16 0) (.int .u16 0)
      refine end_mark rfl rfl rfl hE.holds rfl ?_
      exact ⟨rfl, hE.below⟩
    · obtain ⟨⟨v0, v1⟩, hp⟩ := h.inv.knows (by omega) hr
      have hV : saidV s = (v0, v1) := by unfold saidV; rw [if_neg hr, if_neg hn, hp]; rfl
      have hB : saidB s = true := by unfold saidB; simp [hr, hn]
      have dn : (s.root == -1) = false := by simp [hn]
      have hlk := fun m => (h0.drewN m).km.get s.root (wf_of (by omega) (by omega))
      simp only [hp, Option.getD_some, markV] at hlk
      rw [hV, hB]
      obtain ⟨_, _, _, _, _, c5, _, _, c8⟩ := h0.cells
      clear h h0 hr hV hB hn hp
      have x0 := HX.out.holds.cell 0
      have x1 := HX.out.holds.cell 1
      have z0 := HX.out.holds.soft 0
      have z1 := HX.out.holds.soft 1
      go_enter Try.func40, Try.ntmps40
      go_upto_region 5 with (first
        | (go_at_call 17; refine hm.mono ?_; rintro e w' ⟨rfl, nq, rfl⟩)
        | (go_at_call 16; refine (hroot _).mono ?_; rintro e w' ⟨rfl, rfl⟩))
      have hlk1 := hlk nq
      go_region
      go_wp2
      (try simp only [Exit.inBlock, Exit.then])
      have hE := (HX.out.drewN nq).put2 (.int .u16 v0) (.int .u16 v1)
      refine end_mark rfl rfl rfl (hE.holds.drewN 1) rfl ?_
      exact ⟨rfl, hE.below.drew⟩
end Go.Proofs.Ytgmeakcfiaopcaa

/- Package elect: new lives, new nodes. -/
namespace Go.Proofs.Ytgmeakcfiaopcaa
open Go.RowKit
set_option linter.unusedVariables false
set_option linter.unusedSimpArgs false

theorem eboot_nil (w : World) (x : Int) : Calls Try.prog 34 #[.pointer none, .int .u16 x] w fun e w' => e = .returned (.tuple #[]) ∧ w = w' := by
  go_enter Try.func34, Try.ntmps34
  go_wp2
  refine bodyPost_ret (results_none rfl _ _ _) rfl ?_
  exact ⟨rfl, rfl⟩
/-- The cells that Boot lays, whatever was there ahead. -/
def bootC (me tmo ign x : Int) (m : Nat) : Array Value := #[.int .i64 me, .int .i64 tmo, .int .i64 ign, .int .u16 x, .int .u16 0, .int .i64 (-1), .int .i64 0, .int .i64 0, .map (some m)]
/-- The world behind nine stores. -/
def nine (w : World) (g : Nat) (me tmo ign x : Int) (m : Nat) : World := (((((((((w.setCell ⟨g, 0, none⟩ (.int .i64 me)).setCell ⟨g, 1, none⟩ (.int .i64 tmo)).setCell ⟨g, 2, none⟩ (.int .i64 ign)).setCell ⟨g, 3, none⟩ (.int .u16 x)).setCell ⟨g, 4, none⟩ (.int .u16 0)).setCell ⟨g, 5, none⟩ (.int .i64 (-1))).setCell ⟨g, 6, none⟩ (.int .i64 0)).setCell ⟨g, 7, none⟩ (.int .i64 0)).setCell ⟨g, 8, none⟩ (.map (some m)))
theorem nine_holds {w : World} {g : Nat} {me tmo ign x : Int} {m : Nat} {c3 c4 c5 c6 c7 c8 : Value} (h : Holds w g 88 #[.int .i64 me, .int .i64 tmo, .int .i64 ign, c3, c4, c5, c6, c7, c8]) : Holds (nine w g me tmo ign x m) g 88 (bootC me tmo ign x m) ∧ w.grownBy (nine w g me tmo ign x m) (some g) ∧ (nine w g me tmo ign x m).heap.size = w.heap.size := by
  have h0 := h.put 0 (.int .i64 me)
  have h1 := h0.put 1 (.int .i64 tmo)
  have h2 := h1.put 2 (.int .i64 ign)
  have h3 := h2.put 3 (.int .u16 x)
  have h4 := h3.put 4 (.int .u16 0)
  have h5 := h4.put 5 (.int .i64 (-1))
  have h6 := h5.put 6 (.int .i64 0)
  have h7 := h6.put 7 (.int .i64 0)
  have h8 := h7.put 8 (.map (some m))
  refine ⟨?_, ?_, by simp [nine, World.setCell]⟩
  · unfold nine bootC
    simpa using h8
  · unfold nine
    exact grown_trans (grown_trans (grown_trans (grown_trans (grown_trans (grown_trans (grown_trans (grown_trans (grown_set w g 0 _) (grown_set _ g 1 _)) (grown_set _ g 2 _)) (grown_set _ g 3 _)) (grown_set _ g 4 _)) (grown_set _ g 5 _)) (grown_set _ g 6 _)) (grown_set _ g 7 _)) (grown_set _ g 8 _)
theorem boot_end {w : World} {g : Nat} {me tmo ign x : Int} {c3 c4 c5 c6 c7 c8 : Value} (h : Holds w g 88 #[.int .i64 me, .int .i64 tmo, .int .i64 ign, c3, c4, c5, c6, c7, c8]) :
    Holds ((nine w g me tmo ign x w.heap.size).alloc (.map #[] 0)).drew g 88 (bootC me tmo ign x w.heap.size) ∧ ((nine w g me tmo ign x w.heap.size).alloc (.map #[] 0)).drew.heap[w.heap.size]? = some (.map #[] 0) ∧ Chg (fun k => k = g) w ((nine w g me tmo ign x w.heap.size).alloc (.map #[] 0)).drew := by
  obtain ⟨h1, g1, hs⟩ := nine_holds (x := x) (m := w.heap.size) h
  refine ⟨(h1.alloc (.map #[] 0)).drewN 1, ?_, ?_⟩
  · have h2 := heap_alloc_new (nine w g me tmo ign x w.heap.size) (.map #[] 0)
    rw [hs] at h2
    exact h2
  · exact (Chg.of_grown g1 (fun k e => by cases e; rfl)).trans (Chg.of_below (fun _ => False) (below_alloc _ (.map #[] 0)).drew) (fun _ _ h => h.elim)
set_option maxHeartbeats 4000000 in
theorem boot_raw (w : World) (g : Nat) (me tmo ign x : Int) (c3 c4 c5 c6 c7 c8 : Value) (h : Holds w g 88 #[.int .i64 me, .int .i64 tmo, .int .i64 ign, c3, c4, c5, c6, c7, c8]) : Calls Try.prog 34 #[.pointer (some ⟨g, 0, none⟩), .int .u16 x] w fun e w' =>
    e = .returned (.tuple #[]) ∧ Holds w' g 88 (bootC me tmo ign x w.heap.size) ∧ w'.heap[w.heap.size]? = some (.map #[] 0) ∧ Chg (fun k => k = g) w w' := by
  have hmm := @run_makeMap Try.prog
  have hgl := h.lt
  have k0 := h.cell 0
  have k1 := h.cell 1
  have k2 := h.cell 2
  have k3 := h.cell 3
  have k4 := h.cell 4
  have k5 := h.cell 5
  have k6 := h.cell 6
  have k7 := h.cell 7
  have k8 := h.cell 8
  have z0 := h.soft 0
  have z1 := h.soft 1
  have z2 := h.soft 2
  have z3 := h.soft 3
  have z4 := h.soft 4
  have z5 := h.soft 5
  have z6 := h.soft 6
  have z7 := h.soft 7
  have z8 := h.soft 8
  have hend := boot_end (x := x) h
  unfold nine at hend
  have HE := Lib.hid hend
  clear h hend
  go_enter Try.func34, Try.ntmps34
  go_upto_region 1 with fail
  go_region
  go_wp2
  go_end0
  exact ⟨rfl, HE.out⟩
theorem KM.empty {w : World} {b : Nat} (h : w.heap[b]? = some (.map #[] 0)) : KM w b 0 fun _ => none := by
  obtain ⟨D, ⟨es, clock, h1, h2⟩, h3⟩ := KM.made w
  have e : some (Obj.map es clock) = some (Obj.map #[] 0) := h1.symm.trans (heap_alloc_new w _)
  cases e
  exact ⟨D, ⟨#[], 0, h, h2⟩, h3⟩
/-- What becomes of a node in a new life. -/
def Booted (B g b : Nat) (s : St) (x : Int) (w : World) (e : Ending) (w' : World) : Prop := e = .returned (.tuple #[]) ∧ ENow B g b 0 (bootS s x) w w'
theorem eboot_any (w : World) (B g b n : Nat) (s : St) (h : En w B g b n s) (x : Int) (hx : F16 x) : Calls Try.prog 34 #[.pointer (some ⟨g, 0, none⟩), .int .u16 x] w (Booted B g b s x w) := by
  refine (boot_raw w g s.me s.tmo s.ign x _ _ _ _ _ _ h.holds).mono fun e w' ⟨he, h1, h2, h3⟩ => ⟨he, w.heap.size, ⟨⟨h.newer.1, ?_⟩, h1, KM.empty h2, h.inv.reboot hx⟩, h3.mono (fun k _ e => .inl e), .inr (Nat.le_refl _)⟩
  have := h.newer.1
  have := h.lt
  omega
theorem enew_no (w : World) (me tmo ign : Int) (h : goodB me tmo ign = false) : Calls Try.prog 20 #[.int .i64 me, .agg #[.int .i64 tmo, .int .i64 ign]] w fun e w' => e = .returned (.tuple #[.pointer none, .int .i64 1]) ∧ Below w.heap.size w w' := by
  have HX := Lib.hid (Box.start w 34 #[.int .i64 tmo, .int .i64 ign])
  have x0 := HX.out.holds.cell 0
  have x1 := HX.out.holds.cell 1
  have hgood := fun W => rules_any W tmo ign
  by_cases h0 : me < 0
  · have d0 : decide (me < 0) = true := decide_eq_true h0
    go_enter Try.func20, Try.ntmps20
    go_wp2
    go_ret2
    exact ⟨rfl, HX.out.below⟩
  · have d0 : decide (me < 0) = false := decide_eq_false h0
    by_cases h1 : 64 ≤ me
    · have d1 : decide (64 ≤ me) = true := decide_eq_true h1
      go_enter Try.func20, Try.ntmps20
      go_wp2
      go_ret2
      exact ⟨rfl, HX.out.below⟩
    · have d1 : decide (64 ≤ me) = false := decide_eq_false h1
      have hr : rulesB tmo ign = false := by
        unfold goodB at h
        unfold rulesB
        have h' := of_decide_eq_false h
        exact decide_eq_false (by omega)
      simp only [hr] at hgood
      clear h hr
      go_enter Try.func20, Try.ntmps20
      go_wp2_with (go_at_call 33; refine (hgood _).mono ?_; rintro e w2 ⟨rfl, hb2⟩; have hx2 := HX.out.next hb2)
      go_ret2
      exact ⟨rfl, hx2.below⟩
theorem enew_yes (w : World) (me tmo ign : Int) (h : goodB me tmo ign = true) : Calls Try.prog 20 #[.int .i64 me, .agg #[.int .i64 tmo, .int .i64 ign]] w fun e w' => ∃ g b, e = .returned (.tuple #[.pointer (some ⟨g, 0, none⟩), .int .i64 0]) ∧ En w' w.heap.size g b 0 (newS me tmo ign 0) ∧ Below w.heap.size w w' := by
  have HX := Lib.hid (Box.start w 34 #[.int .i64 tmo, .int .i64 ign])
  have hgood := fun W => rules_any W tmo ign
  have hI := Inv.new h (b := 0) ⟨by decide, by decide⟩
  obtain ⟨m0, m1, t0, t1, i0, i1⟩ := (good_iff me tmo ign).1 h
  have d0 : decide (me < 0) = false := decide_eq_false (by omega)
  have d1 : decide (64 ≤ me) = false := decide_eq_false (by omega)
  have hr : rulesB tmo ign = true := decide_eq_true (by omega)
  simp only [hr] at hgood
  have HI := Lib.hid hI
  clear h hr hI
  go_enter Try.func20, Try.ntmps20
  go_wp2_with (first
    | (go_at_call 33; refine (hgood _).mono ?_; rintro e w2 ⟨rfl, hb2⟩; have hx2 := HX.out.next hb2; have HX2 := Lib.hid hx2; have x0 := hx2.holds.cell 0; have x1 := hx2.holds.cell 1; have hboot := boot_raw _ _ _ _ _ 0 _ _ _ _ _ _ (Holds.new w2 88 #[.int .i64 me, .int .i64 tmo, .int .i64 ign, .int .u16 0, .int .u16 0, .int .i64 0, .int .i64 0, .int .i64 0, .map none]); clear hx2)
    | (go_at_call 34; refine hboot.mono ?_; rintro e w4 ⟨rfl, h1, h2, h3⟩))
  go_ret2
  have hs2 := HX2.out.lt
  have hb4 : Below w.heap.size w w4 := Below.chg (HX2.out.alloc (.cells #[.int .i64 me, .int .i64 tmo, .int .i64 ign, .int .u16 0, .int .u16 0, .int .i64 0, .int .i64 0, .int .i64 0, .map none] 88)).below h3 (by simp; omega) (fun k e => by omega)
  exact ⟨_, _, rfl, ⟨⟨by omega, by simp; omega⟩, h1, KM.empty h2, HI.out⟩, hb4⟩
end Go.Proofs.Ytgmeakcfiaopcaa

/- A node's calls, as laws meet them. -/
namespace Go.Proofs.Ytgmeakcfiaopcaa
open Go.RowKit
set_option linter.unusedVariables false
set_option linter.unusedSimpArgs false

section
variable {w : World} {B g b n : Nat} {s s' : St}
/-- What a law knows behind a call: the node goes on, and nothing older than B was changed. -/
def Goes (B g : Nat) (b n : Nat) (s : St) (w w' : World) : Prop := ∃ b', En w' B g b' n s ∧ Chg (epart g b) w w' ∧ (b' = b ∨ w.heap.size ≤ b')
theorem hear_at (h : En w B g b n s) (hn : n ≤ 100000) (r x q : Int) (hr : (Lit.int .i64 r).wf = true) (hx : F16 x) (hq : F16 q) {v : Int} (hv : hearV s r x q = v) (hs : hearS s r x q = s') : Calls Try.prog 22 #[.pointer (some ⟨g, 0, none⟩), .int .i64 r, .agg #[.int .u16 x, .int .u16 q]] w fun e w' => e = .returned (.int .i64 v) ∧ Goes B g b (n + 1) s' w w' := by
  have := hear_any w B g b n s h hn r x q hr hx hq
  unfold Heard at this
  rw [hv, hs] at this
  exact this
theorem beat_at (h : En w B g b n s) {v : Bool} (hv : beatB s = v) (hs : beatS s = s') : Calls Try.prog 25 #[.pointer (some ⟨g, 0, none⟩)] w fun e w' => e = .returned (.bool v) ∧ Goes B g b n s' w w' := by
  have := beat_any w B g b n s h
  unfold Beaten at this
  rw [hv, hs] at this
  exact this
theorem mine_at (h : En w B g b n s) {v : Bool} (hv : decide (s.root = s.me) = v) : Calls Try.prog 17 #[.pointer (some ⟨g, 0, none⟩)] w fun e w' => e = .returned (.bool v) ∧ ∃ nq, w' = w.drewN nq := by
  have := emine_any w B g b n s h
  rw [hv] at this
  exact this
end
end Go.Proofs.Ytgmeakcfiaopcaa

/- A law's node, beside its rules, which lie in a block of the law's own. -/
namespace Go.Proofs.Ytgmeakcfiaopcaa
open Go.RowKit
set_option linter.unusedVariables false
set_option linter.unusedSimpArgs false

/-- The rules' block as the law began, and a node that is younger. -/
structure Lw (w wr : World) (t e : Int) (g b n : Nat) (s : St) : Prop where
  box : Box w 34 #[.int .i64 t, .int .i64 e] wr
  node : En wr (w.heap.size + 1) g b n s
section
variable {w wr w' : World} {t e : Int} {g b n n' : Nat} {s s' : St}
theorem Box.chg {ty : TypeId} {cs : Array Value} {S : Nat → Prop} (h : Box w ty cs wr) (hc : Chg S wr w') (hS : ∀ k, S k → w.heap.size + 1 ≤ k) : Box w ty cs w' :=
  ⟨h.holds.chg hc (fun e => by have := hS _ e; omega), Below.chg h.below hc (Nat.le_of_lt h.lt) (fun k hk => by have := hS k hk; omega)⟩
theorem Lw.start {w1 : World} (hB : Box w 34 #[.int .i64 t, .int .i64 e] w1) (hE : En wr w1.heap.size g b n s) (hb : Below w1.heap.size w1 wr) : Lw w wr t e g b n s :=
  ⟨hB.next hb, hE.at (by have := hE.newer; have := hB.lt; omega) (by have := hE.newer; have := hB.lt; omega)⟩
theorem Lw.next (h : Lw w wr t e g b n s) (hg : Goes (w.heap.size + 1) g b n' s' wr w') : ∃ b', Lw w w' t e g b' n' s' ∧ Chg (epart g b) wr w' ∧ (b' = b ∨ wr.heap.size ≤ b') := by
  obtain ⟨b', h1, h2, h3⟩ := hg
  refine ⟨b', ⟨h.box.chg h2 (fun k hk => ?_), h1⟩, h2, h3⟩
  rcases hk with rfl | rfl
  · exact h.node.newer.1
  · exact h.node.newer.2
theorem Lw.below (h : Lw w wr t e g b n s) (hb : Below wr.heap.size wr w') : Lw w w' t e g b n s := ⟨h.box.next hb, h.node.below hb⟩
theorem Lw.alloc (h : Lw w wr t e g b n s) (o : Obj) : Lw w (wr.alloc o) t e g b n s := h.below (below_alloc _ _)
theorem Lw.drewN (h : Lw w wr t e g b n s) (m : Nat) : Lw w (wr.drewN m) t e g b n s := h.below (below_drewN (Below.refl _ _) m)
theorem Lw.mono (h : Lw w wr t e g b n s) (hn : n ≤ n') : Lw w wr t e g b n' s := ⟨h.box, h.node.mono hn⟩
theorem Lw.cells (h : Lw w wr t e g b n s) : wr.cell? ⟨w.heap.size, 0, none⟩ = some (.int .i64 t) ∧ wr.cell? ⟨w.heap.size, 1, none⟩ = some (.int .i64 e) := ⟨h.box.holds.cell 0, h.box.holds.cell 1⟩
theorem Lw.law (h : Lw w wr t e g b n s) : Below w.heap.size w wr := h.box.below
end
end Go.Proofs.Ytgmeakcfiaopcaa

/- A law's parameters that are structs of plain fields (integers, bools, strings, slices of integers; structs of such), by value, and slices of such. Nothing here speaks of one program. -/
namespace Go.Proofs.Ytgmeakcfiaopcaa
open Go.ChangeShapes Go.WideShapes Go.RowKit Go.Deep Go.ChangeMaps Go.WideElems

/-- What a plain cell may hold. -/
inductive FK where
  | int (k : IntKind)
  | bool
  | str
  | ints (k : IntKind)

def FK.ok (W : World) : FK → Value → Prop
  | .int k, v => ∃ z, v = .int k z ∧ (Lit.int k z).wf = true
  | .bool, v => ∃ b, v = .bool b
  | .str, v => ∃ s : ByteArray, v = .string s ∧ s.size ≤ maxLen
  | .ints k, v => ∃ A n c zs, v = .slice A n c ∧ IntRow W k A n c zs

/-- Each cell holds what its kind says. -/
def Fit (W : World) : List FK → List Value → Prop
  | [], [] => True
  | k :: ks, v :: vs => k.ok W v ∧ Fit W ks vs
  | _, _ => False
theorem Fit.length {W : World} : ∀ {ks : List FK} {vs : List Value}, Fit W ks vs → vs.length = ks.length
  | [], [], _ => rfl
  | _ :: ks, _ :: vs, h => by
    have := Fit.length (ks := ks) (vs := vs) h.2
    simpa using this
theorem Fit.append {W : World} : ∀ {ks ls : List FK} {vs us : List Value}, Fit W ks vs → Fit W ls us → Fit W (ks ++ ls) (vs ++ us)
  | [], _, [], _, _, h => h
  | _ :: ks, _, _ :: vs, _, h, h' => ⟨h.1, Fit.append (ks := ks) (vs := vs) h.2 h'⟩
theorem FK.ok.below {W W' : World} {k : FK} {v : Value} (h : k.ok W v) (hb : Below W.heap.size W W') : k.ok W' v := by
  cases k with
  | int k => exact h
  | bool => exact h
  | str => exact h
  | ints k =>
    obtain ⟨A, n, c, zs, e, hr⟩ := h
    exact ⟨A, n, c, zs, e, hr.below hb⟩
theorem Fit.below {W W' : World} (hb : Below W.heap.size W W') : ∀ {ks : List FK} {vs : List Value}, Fit W ks vs → Fit W' ks vs
  | [], [], _ => trivial
  | _ :: ks, _ :: vs, h => ⟨h.1.below hb, Fit.below hb (ks := ks) (vs := vs) h.2⟩

/-- The kinds of a struct's fields, one behind the other; none: they don't lie so, or one isn't plain. -/
def flatFs (P : Program) (g : TypeId → Option (List FK)) : List Field → Nat → Option (List FK)
  | [], _ => some []
  | f :: r, off =>
    if f.offset = off then
      match g f.type with
      | some ks => if P.cellsOf f.type = ks.length then (flatFs P g r (off + ks.length)).map (ks ++ ·) else none
      | none => none
    else none
/-- The kinds of a type's cells. -/
def flat (P : Program) : Nat → TypeId → Option (List FK)
  | 0, _ => none
  | d + 1, t =>
    match P.underlying t with
    | some (.int k) => some [.int k]
    | some .bool => some [.bool]
    | some .string => some [.str]
    | some (.slice e) => match P.underlying e with
      | some (.int k) => if P.cellsOf e = 1 then some [.ints k] else none
      | _ => none
    | some (.struct fs) => match flatFs P (flat P d) fs.toList 0 with
      | some ks => if P.cellsOf t = ks.length then some ks else none
      | none => none
    | _ => none

section
variable {H : Type} {enc : TypeId × Value → H} {P : Program} {W : World}
theorem flatFs_fit {g : TypeId → Option (List FK)} {cs : List Value} {xs : List (DataW H × List MemPlace)} {n : Nat}
    (hg : ∀ t ks vs x, g t = some ks → DataW.trod enc P W 0 (fun _ => true) true n t vs = some x → Fit W ks vs) :
    ∀ (fs : List Field) (off i : Nat) (ks : List FK), flatFs P g fs off = some ks → xs.length = i + fs.length → off + ks.length = cs.length →
      (∀ (j : Nat) (f : Field), fs[j]? = some f → DataW.trod enc P W 0 (fun _ => true) true n f.type ((cs.drop f.offset).take (P.cellsOf f.type)) = xs[i + j]?) → Fit W ks (cs.drop off)
  | [], off, i, ks, h, _, hl, _ => by
    simp only [flatFs, Option.some.injEq] at h
    subst h
    rw [List.drop_eq_nil_of_le (by simp at hl; omega)]
    trivial
  | f :: r, off, i, ks, h, hx, hl, hf => by
    simp only [flatFs] at h
    split at h
    · rename_i ho
      split at h
      · rename_i k1 hk1
        split at h
        · rename_i hc
          rw [Option.map_eq_some_iff] at h
          obtain ⟨k2, hk2, rfl⟩ := h
          rw [List.length_append] at hl
          rw [List.length_cons] at hx
          have h0 := hf 0 f rfl
          rw [ho, hc, Nat.add_zero, List.getElem?_eq_getElem (by omega)] at h0
          have h1 := hg _ _ _ _ hk1 h0
          have h2 := flatFs_fit (cs := cs) (xs := xs) hg r (off + k1.length) (i + 1) k2 hk2 (by omega) (by omega) (fun j f' hj => by
            have := hf (j + 1) f' (by simpa using hj)
            rw [this]
            congr 1
            omega)
          have h3 := Fit.append h1 h2
          rwa [← List.drop_drop, List.take_append_drop] at h3
        · cases h
      · cases h
    · cases h
theorem flat_fit : ∀ (d : Nat) (t : TypeId) (ks : List FK) (cs : List Value) (n : Nat) (x : DataW H × List MemPlace), flat P d t = some ks → DataW.trod enc P W 0 (fun _ => true) true n t cs = some x → Fit W ks cs
  | 0, _, _, _, _, _, h, _ => by cases h
  | d + 1, t, ks, cs, n, x, h, hx => by
    unfold flat at h
    split at h
    · rename_i k hu
      simp only [Option.some.injEq] at h
      subst h
      obtain ⟨z, rfl, _, hw⟩ := DataW.trod_int hu hx
      exact ⟨⟨z, rfl, hw⟩, trivial⟩
    · rename_i hu
      simp only [Option.some.injEq] at h
      subst h
      obtain ⟨b, rfl, _⟩ := DataW.trod_bool hu hx
      exact ⟨⟨b, rfl⟩, trivial⟩
    · rename_i hu
      simp only [Option.some.injEq] at h
      subst h
      obtain ⟨s, rfl, _, hs⟩ := DataW.trod_string hu hx
      exact ⟨⟨s, rfl, hs⟩, trivial⟩
    · rename_i e hu
      split at h
      · rename_i k he
        split at h
        · rename_i hc
          simp only [Option.some.injEq] at h
          subst h
          rcases open_ints hu he hc hx with ⟨rfl, _⟩ | ⟨a, len, cap, zs, rfl, _, hl, hm, hz, _, hcell, hwz⟩
          · exact ⟨⟨none, 0, 0, [], rfl, rfl, Nat.le_refl _, by simp [maxLen], fun _ => rfl, fun h => absurd h (Nat.lt_irrefl _), by simp⟩, trivial⟩
          · simp only [if_true] at hz
            refine ⟨⟨some a, len, cap, zs.take len, rfl, by rw [List.length_take]; omega, hl, hm, (fun h => by cases h), fun h0 => ?_, fun n hn => hwz n (List.mem_of_mem_take hn)⟩, trivial⟩
            obtain ⟨b, off, rfl, hh⟩ := ints_at hcell (by omega)
            refine ⟨b, off, rfl, block_lt (hh 0 (by omega)), fun j hj => ?_⟩
            rw [hh j (by omega)]
            simp [List.getD, hj]
        · cases h
      · cases h
    · rename_i fs hu
      split at h
      · rename_i ks' hk
        split at h
        · rename_i hc
          simp only [Option.some.injEq] at h
          subst h
          obtain ⟨xs, n', rfl, _, hlen, hxl, hf⟩ := DataW.trod_struct hu hx
          have := flatFs_fit (cs := cs) (xs := xs) (n := n') (fun t ks vs x h1 h2 => flat_fit d t ks vs n' x h1 h2) fs.toList 0 0 _ hk (by simpa using hxl) (by omega) (fun j f hj => by
            rw [Nat.zero_add]
            exact hf j f (by simpa using hj))
          simpa using this
        · cases h
      · cases h
    · cases h

/-- A parameter that is a struct of plain fields. -/
theorem flat_arg {t : TypeId} {fs : Array Field} {ks : List FK} {v : Value} {e : DataW H} {p : List MemPlace} (d : Nat) (hs : P.underlying t = some (.struct fs)) (hk : flat P d t = some ks)
    (hv : Value.okWide P W .any 0 t v) (h : DataW.Trod enc P W 0 (fun _ => true) true t v e p) : ∃ vs : List Value, v = .agg vs.toArray ∧ Fit W ks vs := by
  obtain ⟨cs, rfl, _⟩ := okWide_struct hs hv
  obtain ⟨fuel, hf⟩ := h
  refine ⟨cs.toList, by simp, ?_⟩
  have := flat_fit d t ks _ _ _ hk hf
  simpa [Value.cells] using this

/-- A slice of elements of plain cells that came in. -/
structure FlatRow (W : World) (ks : List FK) (A : Option Addr) (n c : Nat) (f : Nat → List Value) : Prop where
  cap_le : n ≤ c
  max : c ≤ maxLen
  nil : A = none → c = 0
  fit : ∀ i, i < n → Fit W ks (f i)
  cell : 0 < n → ∃ b off, A = some ⟨b, off, none⟩ ∧ b < W.heap.size ∧ ∀ i, i < n → ∀ j, j < ks.length → W.cell? ⟨b, off + (i * ks.length + j), none⟩ = (f i)[j]?
theorem FlatRow.below {W' : World} {ks : List FK} {A : Option Addr} {n c : Nat} {f : Nat → List Value} (h : FlatRow W ks A n c f) (hb : Below W.heap.size W W') : FlatRow W' ks A n c f :=
  ⟨h.cap_le, h.max, h.nil, fun i hi => (h.fit i hi).below hb, fun hn => by
    obtain ⟨b, off, e, hlt, hc⟩ := h.cell hn
    exact ⟨b, off, e, Nat.lt_of_lt_of_le hlt hb.size, fun i hi j hj => (hb.cell (p := ⟨b, off + (i * ks.length + j), none⟩) hlt).trans (hc i hi j hj)⟩⟩
theorem FlatRow.at {ks : List FK} {A : Option Addr} {n c : Nat} {f : Nat → List Value} (h : FlatRow W ks A n c f) (m : Nat) (hm : ks.length = m) {i : Nat} (hi : i < n) :
    ∃ b off, A = some ⟨b, off, none⟩ ∧ b < W.heap.size ∧ ∀ j v, (f i)[j]? = some v → W.cell? ⟨b, off + i * m + j, none⟩ = some v := by
  obtain ⟨b, off, e, hb, hc⟩ := h.cell (by omega)
  refine ⟨b, off, e, hb, fun j v hv => ?_⟩
  have hj : j < ks.length := by
    rw [← (h.fit i hi).length]
    exact (List.getElem?_eq_some_iff.1 hv).1
  have := hc i hi j hj
  rw [hm] at this
  rw [Nat.add_assoc, this, hv]
theorem flats_arg {t e : TypeId} {ks : List FK} {v : Value} {x : DataW H} {p : List MemPlace} (d : Nat) (ht : P.underlying t = some (.slice e)) (hk : flat P d e = some ks) (hc : P.cellsOf e = ks.length) (h0 : 0 < ks.length)
    (hv : Value.okWide P W .any 0 t v) (h : DataW.Trod enc P W 0 (fun _ => true) true t v x p) : ∃ A n c f, v = .slice A n c ∧ FlatRow W ks A n c f := by
  obtain ⟨A, len, cap, rfl⟩ := okWide_slice ht hv
  obtain ⟨fuel, hf⟩ := h
  rcases open_slice ht hf with ⟨hcs, _⟩ | ⟨a, len', cap', m, n, D, Pl, hcs, _, hl, hm, hmm, _, hall⟩
  · simp [Value.cells] at hcs
    obtain ⟨rfl, rfl, rfl⟩ := hcs
    exact ⟨none, 0, 0, fun _ => [], rfl, Nat.le_refl _, by simp [maxLen], fun _ => rfl, fun i hi => absurd hi (Nat.not_lt_zero _), fun h => absurd h (Nat.lt_irrefl _)⟩
  · simp [Value.cells] at hcs
    obtain ⟨rfl, rfl, rfl⟩ := hcs
    simp only [if_true] at hmm
    subst hmm
    have hex : ∀ i, ∃ cs' : List Value, i < m → W.cells? 0 (a.add (i * P.cellsOf e)) (P.cellsOf e) = some cs' ∧ DataW.trod enc P W 0 (fun _ => true) true n e cs' = some (D i, Pl i) := by
      intro i
      by_cases hi : i < m
      · obtain ⟨cs', h1, h2⟩ := hall i hi
        exact ⟨cs', fun _ => ⟨h1, h2⟩⟩
      · exact ⟨[], fun h => absurd h hi⟩
    obtain ⟨f, hf'⟩ := Classical.axiomOfChoice hex
    refine ⟨some a, len, m, f, rfl, hl, hm, (fun h => by cases h), fun i hi => flat_fit d e ks _ n _ hk (hf' i (by omega)).2, fun hn => ?_⟩
    have hat : ∀ i, i < len → ∀ j, j < ks.length → W.cell? ((a.add (i * ks.length)).add j) = (f i)[j]? := fun i hi j hj => by
      have := (World.cells?_some (hf' i (by omega)).1).2.2 j (by rw [hc]; exact hj)
      rwa [hc] at this
    obtain ⟨b, off, spot⟩ := a
    have hf0 := (flat_fit d e ks _ n _ hk (hf' 0 (by omega)).2).length
    have hspot : spot = none := by
      have h00 := hat 0 hn 0 h0
      rw [List.getElem?_eq_getElem (by omega)] at h00
      simpa [Addr.add] using World.cell?_spot h00
    subst hspot
    have hpl : ∀ i j : Nat, (((⟨b, off, none⟩ : Addr).add i).add j) = ⟨b, off + (i + j), none⟩ := fun i j => by
      rw [Go.WideShapes.add_plain, Go.WideShapes.add_plain, Nat.add_assoc]
    refine ⟨b, off, rfl, ?_, fun i hi j hj => by rw [← hpl]; exact hat i hi j hj⟩
    have h00 := hat 0 hn 0 h0
    rw [List.getElem?_eq_getElem (by omega), hpl] at h00
    exact block_lt h00
end
end Go.Proofs.Ytgmeakcfiaopcaa

/- A law's node in scripts: what becomes of it, call by call. -/
namespace Go.Proofs.Ytgmeakcfiaopcaa
open Go.RowKit
set_option linter.unusedVariables false
set_option linter.unusedSimpArgs false

section
variable {w wr w' : World} {t e : Int} {g b n n' : Nat} {s s' : St}
/-- A step of the node: a block of the law's own besides stays. -/
theorem Lw.step (h : Lw w wr t e g b n s) (hg : Goes (w.heap.size + 1) g b n' s' wr w') {o : Nat} {ty : TypeId} {cs : Array Value} (HO : Holds wr o ty cs) (h1 : o ≠ g) (h2 : o ≠ b) : ∃ b', Lw w w' t e g b' n' s' ∧ Holds w' o ty cs ∧ Chg (epart g b) wr w' ∧ (b' = b ∨ wr.heap.size ≤ b') := by
  obtain ⟨b', k1, k2, k3⟩ := h.next hg
  exact ⟨b', k1, HO.chg k2 (fun e => e.elim h1 h2), k2, k3⟩
theorem Lw.apart (h : Lw w wr t e g b n s) : g < wr.heap.size ∧ b < wr.heap.size := ⟨h.node.lt, h.node.ltb⟩
end
theorem hear_keeps (s : St) (r x q : Int) : (hearS s r x q).me = s.me := by unfold hearS; split <;> rfl
theorem beat_keeps (s : St) : (beatS s).me = s.me := by
  unfold beatS
  split
  · rfl
  · split <;> rfl
theorem issue_keeps (s : St) : (issueS s).me = s.me := by unfold issueS; split <;> rfl
/-- A word is refused, and nothing changed, or it is taken, and the root is the word's. -/
theorem hear_ways {s : St} (r x q : Int) (hi : Inv s) : (hearV s r x q = 0 ∧ hearS s r x q = s) ∨ ((hearV s r x q == 0) = false ∧ (hearV s r x q != 0) = true ∧ (hearS s r x q).root = r ∧ 0 ≤ r ∧ r < s.me ∧ (0 ≤ s.root → r ≤ s.root) ∧ takeB s r x q = true) := by
  cases h : takeB s r x q with
  | false => exact .inl (by unfold hearV hearS; rw [h]; exact ⟨rfl, rfl⟩)
  | true =>
    right
    obtain ⟨h0, h1, h2⟩ := (heed_iff s r).1 (take_heed h)
    have hv : hearV s r x q = if movB s r x = true then 2 else 1 := by unfold hearV; rw [h]; rfl
    have hs : (hearS s r x q).root = r := by unfold hearS; rw [h]; rfl
    refine ⟨?_, ?_, hs, h0, h1, fun h3 => ?_, rfl⟩
    · rw [hv]
      split <;> rfl
    · rw [hv]
      split <;> rfl
    · by_cases e : s.root = s.me
      · omega
      · rw [if_neg e] at h2
        omega
theorem beat_ways {s : St} (hi : Inv s) : (beatB s = false ∧ (beatS s).root = s.root) ∨ (beatB s = true ∧ (beatS s).root = s.me ∧ s.root ≠ s.me) := by
  unfold beatB beatS
  by_cases e : s.root = s.me
  · left
    rw [if_pos e]
    exact ⟨decide_eq_false (fun k => k.1 e), rfl⟩
  · rw [if_neg e]
    by_cases e2 : s.waited + 1 < s.tmo
    · left
      rw [if_pos e2]
      exact ⟨decide_eq_false (fun k => by omega), rfl⟩
    · right
      rw [if_neg e2]
      exact ⟨decide_eq_true ⟨e, by omega⟩, rfl, e⟩
theorem issue_at {w : World} {B g b n : Nat} {s : St} (h : En w B g b n s) : Calls Try.prog 26 #[.pointer (some ⟨g, 0, none⟩)] w fun e w' => e = .returned (.tuple #[.agg #[.int .u16 (issueV s).1, .int .u16 (issueV s).2], .bool (decide (s.root = s.me))]) ∧ Goes B g b n (issueS s) w w' := issue_any w B g b n s h
theorem boot_at {w : World} {B g b n : Nat} {s : St} (h : En w B g b n s) (x : Int) (hx : F16 x) : Calls Try.prog 34 #[.pointer (some ⟨g, 0, none⟩), .int .u16 x] w fun e w' => e = .returned (.tuple #[]) ∧ Goes B g b 0 (bootS s x) w w' := eboot_any w B g b n s h x hx
theorem mark_at {w : World} {B g b n : Nat} {s : St} (h : En w B g b n s) : Calls Try.prog 40 #[.pointer (some ⟨g, 0, none⟩)] w fun e w' => e = .returned (.tuple #[.agg #[.int .u16 (saidV s).1, .int .u16 (saidV s).2], .bool (saidB s)]) ∧ Below w.heap.size w w' := emark_any w B g b n s h
end Go.Proofs.Ytgmeakcfiaopcaa

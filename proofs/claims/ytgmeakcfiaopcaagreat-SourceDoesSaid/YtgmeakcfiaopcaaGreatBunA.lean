/- Texts of this seat, one behind the other. -/
import Derived.WalkKit
import Derived.ProofKit
import Derived.OpenShut
import Derived.Carry
import Derived.IntWalk
import Derived.PlainAid
import Derived.Deep.Draws
import Derived.Lib.Hide
import Derived.Test.YtgmeakcfiaopcaaGreatProg
import Derived.Outline
import Derived.Maps.AppendAt
import Derived.Deep.AppendLies
import Derived.Laws.OwnMore
import Derived.Laws.BytesArg
import Derived.OwnWalk
import Derived.Below
import Derived.Laws.CopyOwn
import Derived.Lib.AppendZerosOnto
import Derived.ArgAppend
import Derived.OrdersHeld
import Derived.StillTail
import Derived.Deep.RegionHeld
import Derived.Deep.Slices
import Derived.Deep.Fields
import Derived.ChangeMaps5
/- What all proofs of this seat share: how a law's arguments are opened, and what is owed behind a call that wrote to new memory alone. Nothing here speaks of one program. -/
namespace Go.Proofs.YtgmeakcfiaopcaaGreat
open Go.ChangeShapes Go.WideShapes Go.ChangeAt Go.RowKit Go.ChangeMaps Go.WideElems

def F8 (n : Int) : Prop := 0 ≤ n ∧ n ≤ 255
def F16 (n : Int) : Prop := 0 ≤ n ∧ n ≤ 65535
def F32 (n : Int) : Prop := 0 ≤ n ∧ n ≤ 4294967295
def Fits (n : Int) : Prop := -9223372036854775808 ≤ n ∧ n ≤ 9223372036854775807
theorem fits_wf {n : Int} (h : (Lit.int .i64 n).wf = true) : Fits n := bounds_i64 h
theorem f32_wf {n : Int} (h : (Lit.int .u32 n).wf = true) : F32 n := bounds_u32 h
theorem f16_wf {n : Int} (h : (Lit.int .u16 n).wf = true) : F16 n := bounds_u16 h
theorem f8_wf {n : Int} (h : (Lit.int .u8 n).wf = true) : F8 n := bounds_u8 h
theorem ret_int {k : IntKind} {a b : Int} (h : a = b) : Ending.returned (.int k a) = .returned (.int k b) := by rw [h]
theorem ret_bool {a b : Bool} (h : a = b) : Ending.returned (.bool a) = .returned (.bool b) := by rw [h]
theorem ret_ib {k : IntKind} {a b : Int} {o p : Bool} (h : a = b) (g : o = p) : Ending.returned (.tuple #[.int k a, .bool o]) = .returned (.tuple #[.int k b, .bool p]) := by rw [h, g]
theorem ret_ii {k l : IntKind} {a b c d : Int} (h : a = b) (g : c = d) : Ending.returned (.tuple #[.int k a, .int l c]) = .returned (.tuple #[.int k b, .int l d]) := by rw [h, g]
theorem wrap_u32 (n : Int) : IntKind.u32.wrap n = n % 4294967296 := by simp [IntKind.wrap, IntKind.bits, IntKind.signed]
theorem wrap_u16 (n : Int) : IntKind.u16.wrap n = n % 65536 := by simp [IntKind.wrap, IntKind.bits, IntKind.signed]
theorem wrap_u8 (n : Int) : IntKind.u8.wrap n = n % 256 := by simp [IntKind.wrap, IntKind.bits, IntKind.signed]

/-- A slice of one-cell integers that came in: its cells, as far as its length goes, at a plain address below the heap's end. -/
structure IntRow (W : World) (k : IntKind) (A : Option Addr) (len cap : Nat) (zs : List Int) : Prop where
  len_eq : zs.length = len
  cap_le : len ≤ cap
  max : cap ≤ maxLen
  nil : A = none → cap = 0
  cell : 0 < len → ∃ b off, A = some ⟨b, off, none⟩ ∧ b < W.heap.size ∧ ∀ j, j < len → W.cell? ⟨b, off + j, none⟩ = some (.int k (zs.getD j 0))
  wf : ∀ n ∈ zs, (Lit.int k n).wf = true

theorem block_lt {W : World} {p : Addr} {v : Value} (h : W.cell? p = some v) : p.block < W.heap.size := by
  rcases Nat.lt_or_ge p.block W.heap.size with hlt | hge
  · exact hlt
  · exfalso
    unfold World.cell? at h
    have e : W.heap[p.block]? = none := Array.getElem?_eq_none hge
    rw [e] at h
    simp at h

section
variable {H : Type} {enc : TypeId × Value → H} {P : Program}
theorem ints_arg {W : World} {t e : TypeId} {k : IntKind} {v : Value} {d : DataW H} {p : List MemPlace} (ht : P.underlying t = some (.slice e)) (he : P.underlying e = some (.int k)) (hc : P.cellsOf e = 1)
    (hv : Value.okWide P W .any 0 t v) (h : DataW.Trod enc P W 0 (fun _ => true) true t v d p) :
    ∃ A len cap zs, v = .slice A len cap ∧ IntRow W k A len cap zs := by
  obtain ⟨A, len, cap, rfl⟩ := okWide_slice ht hv
  obtain ⟨fuel, hf⟩ := h
  rcases open_ints ht he hc hf with ⟨hcs, _⟩ | ⟨a, len', cap', zs, hcs, _, hl, hm, hz, _, hcell, hwz⟩
  · simp [Value.cells] at hcs
    obtain ⟨rfl, rfl, rfl⟩ := hcs
    exact ⟨none, 0, 0, [], rfl, rfl, Nat.le_refl _, by simp [maxLen], fun _ => rfl, fun h => absurd h (Nat.lt_irrefl _), by simp⟩
  · simp [Value.cells] at hcs
    obtain ⟨rfl, rfl, rfl⟩ := hcs
    simp only [if_true] at hz
    refine ⟨some a, len, cap, zs.take len, rfl, by rw [List.length_take]; omega, hl, hm, (fun h => by cases h), fun h0 => ?_, fun n hn => hwz n (List.mem_of_mem_take hn)⟩
    obtain ⟨b, off, rfl, hh⟩ := ints_at hcell (by omega)
    refine ⟨b, off, rfl, block_lt (hh 0 (by omega)), fun j hj => ?_⟩
    rw [hh j (by omega)]
    simp [List.getD, hj]

theorem trodAll_stays (hl : laidOutB P = true) {W W' : World} {sp : Nat → Bool} :
    ∀ {ts : List TypeId} {vs : List Value} {ds : List (DataW H)} {ps : List MemPlace}, (∀ t ∈ ts, P.readableRec t = true ∧ t < P.types.size) → DataW.TrodAll enc P W 0 (fun _ => true) true ts vs ds ps →
      (∀ x ∈ ps, W.sameAt W' x) → (∀ x ∈ ps, sp x.block = true) → DataW.TrodAll enc P W' 0 sp true ts vs ds ps
  | [], _, _, _, _, h, _, _ => by
    obtain ⟨rfl, rfl, rfl⟩ := trodAll_nil h
    exact trodAll_mk0
  | t :: ts, _, _, _, ht, h, hs, hp => by
    obtain ⟨v, vs, d, ds, p, q, rfl, rfl, rfl, h1, h2⟩ := trodAll_cons h
    have ht0 := ht t (List.mem_cons.2 (Or.inl rfl))
    exact trodAll_cons_mk (Trod_stays hl ht0.1 ht0.2 h1 (fun x hx => hs x (List.mem_append_left _ hx)) (fun x hx => hp x (List.mem_append_left _ hx)))
      (trodAll_stays hl (fun t' h' => ht t' (List.mem_cons.2 (Or.inr h'))) h2 (fun x hx => hs x (List.mem_append_right _ hx)) (fun x hx => hp x (List.mem_append_right _ hx)))

theorem post_of_below {f : Func} {s : ChangeSpec} {apart fresh handsOn again : Bool} {W W' : World} {args : Array Value} {v : Value} {ds gs : List (DataW H)} {before pa pv : List MemPlace}
    (hW : DataW.Whole enc P f.params.toList s.vars apart W args.toList ds gs before)
    (hres : ∀ (b : Nat) (sp : Nat → Bool) (hd : Bool), DataW.TrodAll enc P W' b sp hd f.resultTypes.toList (v.resultList f.resultTypes.size) (s.fn H (ds ++ gs)).results [])
    (hargs : ∀ sp : Nat → Bool, (∀ p ∈ before, sp p.block = true) → DataW.TrodAll enc P W' 0 sp true f.params.toList args.toList (s.fn H (ds ++ gs)).args pa)
    (hvars : ∀ sp : Nat → Bool, (∀ p ∈ before, sp p.block = true) → DataW.TrodVars enc P W' sp s.vars (s.fn H (ds ++ gs)).vars pv)
    (hps : before = pa ++ pv) (hb : Below W.heap.size W W')
    (hok : ∀ (j : Nat) (t : TypeId) (r : Value), f.resultTypes[j]? = some t → (v.resultList f.resultTypes.size)[j]? = some r → Value.okWide P W' .any 0 t r) :
    s.post enc P f apart fresh handsOn again W args v W' := by
  have hlt : ∀ p ∈ before, p.block < W.heap.size := fun p hp => hW.lt p hp
  have hold : ∀ p ∈ before, (fun b => decide (b < W.heap.size)) p.block = true := fun p hp => by simpa using hlt p hp
  refine ⟨ds, gs, before, [], pa, pv, hW, hres _ _ _, hargs _ hold, hvars _ hold, World.keptBut_mono (fun p hp => ⟨hp, ?_⟩) (hb.frame (· ∈ before)), fun _ => ?_⟩
  · rw [hps, List.mem_append] at hp
    exact Or.inr hp
  · obtain ⟨_, _, _, _, _, hz, hn⟩ := hW
    refine ⟨hok, _, _, ([] ++ pa) ++ pv, ⟨[] ++ pa, pv, trodAll_append (hargs _ (fun _ _ => rfl)) (hres _ _ _), hvars _ (fun _ _ => rfl), rfl, ?_, ?_⟩, ?_⟩
    · intro b off hp
      have hin : MemPlace.cell b off ∈ before := by rw [hps]; simpa using hp
      rw [hb.frozen (hlt _ hin)]
      exact hz b off hin
    · intro ha
      have := hn ha
      rw [hps] at this
      simpa using this
    · intro p hp _
      rw [hps]
      simpa using hp

/-- What a law owes behind the call, where it answered true and wrote to new memory alone. -/
theorem law_post {f : Func} {s : ChangeSpec} {apart fresh handsOn again : Bool} {W W' : World} {args : Array Value} {ds : List (DataW H)} {before : List MemPlace} {tb : TypeId}
    (hW : DataW.Whole enc P f.params.toList s.vars apart W args.toList ds [] before) (hA : DataW.TrodAll enc P W 0 (fun _ => true) true f.params.toList args.toList ds before)
    (hsv : s.vars = []) (hl : laidOutB P = true) (hr : (f.params.toList.all fun t => P.readableRec t && decide (t < P.types.size)) = true) (hrt : f.resultTypes = #[tb]) (hbt : P.underlying tb = some .bool)
    (hfr : (s.fn H (ds ++ [])).results = [.lit (.bool true)]) (hfa : (s.fn H (ds ++ [])).args = ds) (hfv : (s.fn H (ds ++ [])).vars = []) (hb : Below W.heap.size W W') :
    s.post enc P f apart fresh handsOn again W args (.bool true) W' := by
  have hlt : ∀ p ∈ before, p.block < W.heap.size := fun p hp => hW.lt p hp
  refine post_of_below (pa := before) (pv := []) hW ?_ ?_ ?_ (by simp) hb ?_
  · intro b sp hd
    rw [hfr, hrt]
    exact trodAll_mk1 (shut_bool hbt _)
  · intro sp hsp
    rw [hfa]
    refine trodAll_stays hl (fun t ht => ?_) hA (fun x hx => hb.same (hlt x hx)) hsp
    have := List.all_eq_true.1 hr t ht
    simpa using this
  · intro sp _
    rw [hfv, hsv]
    rfl
  · intro j t r h1 h2
    exact ok_one hrt rfl (okWide_bool_mk hbt _) j t r h1 h2
end

theorem below_drewN {B : Nat} {a w : World} (h : Below B a w) (n : Nat) : Below B a (w.drewN n) := ⟨h.os, h.tape, h.output, h.size, h.block⟩
end Go.Proofs.YtgmeakcfiaopcaaGreat

/- Package wrap's Next and Newer, and the document's, for all numbers. -/
namespace Go.Proofs.YtgmeakcfiaopcaaGreat
open Go.RowKit

/-- The number behind one. -/
def nextV (a : Int) : Int := (a + 1) % 65536
theorem next_any (a : Int) (w : World) :
    Calls Tryz.prog 64 #[.int .u16 a] w fun e w' => e = .returned (.int .u16 (nextV a)) ∧ w = w' := by
  go_enter Tryz.func64, Tryz.ntmps64
  go_wp2
  go_ret
  exact ⟨ret_int (by rw [wrap_u16]; rfl), rfl⟩
theorem rnext_any (a : Int) (w : World) (ha : F16 a) :
    Calls Tryz.prog 46 #[.int .u16 a] w fun e w' => e = .returned (.int .u16 (nextV a)) ∧ w = w' := by
  obtain ⟨a1, a2⟩ := ha
  go_enter Tryz.func46, Tryz.ntmps46
  go_wp2
  go_ret
  exact ⟨ret_int (by unfold nextV; first | rfl | (simp only [wrap_u16]; omega)), rfl⟩
/-- Is a number newer? -/
def newB (a b : Int) : Bool := decide (1 ≤ (a - b) % 65536 ∧ (a - b) % 65536 ≤ 32767)
theorem newB_yes {a b : Int} (h : newB a b = true) : 1 ≤ (a - b) % 65536 ∧ (a - b) % 65536 ≤ 32767 := by simpa [newB] using h
theorem newB_no {a b : Int} (h : newB a b = false) : ¬ (1 ≤ (a - b) % 65536 ∧ (a - b) % 65536 ≤ 32767) := by
  unfold newB at h; exact of_decide_eq_false h
theorem newer_any (a b : Int) (w : World) :
    Calls Tryz.prog 72 #[.int .u16 a, .int .u16 b] w fun e w' => e = .returned (.bool (newB a b)) ∧ w = w' := by
  cases h : newB a b with
  | true =>
    have h1 := newB_yes h
    rw [← wrap_u16] at h1
    obtain ⟨h2, h3⟩ := h1
    have h4 : decide (IntKind.u16.wrap (a - b) < 32768) = true := decide_eq_true (by omega)
    clear h
    go_enter Tryz.func72, Tryz.ntmps72
    go_wp2
    go_ret
    exact ⟨rfl, rfl⟩
  | false =>
    have h1 := newB_no h
    rw [← wrap_u16] at h1
    by_cases h2 : 0 < IntKind.u16.wrap (a - b)
    · have h3 : decide (IntKind.u16.wrap (a - b) < 32768) = false := decide_eq_false (by omega)
      clear h h1
      go_enter Tryz.func72, Tryz.ntmps72
      go_wp2
      go_ret
      exact ⟨rfl, rfl⟩
    · clear h h1
      go_enter Tryz.func72, Tryz.ntmps72
      go_wp2
      go_ret
      exact ⟨rfl, rfl⟩
theorem rnewer_any (a b : Int) (w : World) (ha : F16 a) (hb : F16 b) :
    Calls Tryz.prog 74 #[.int .u16 a, .int .u16 b] w fun e w' => e = .returned (.bool (newB a b)) ∧ w = w' := by
  obtain ⟨a1, a2⟩ := ha
  obtain ⟨b1, b2⟩ := hb
  have e : (a + 65536 - b) % 65536 = (a - b) % 65536 := by omega
  cases h : newB a b with
  | true =>
    have h1 := newB_yes h
    rw [← e] at h1
    obtain ⟨h2, h3⟩ := h1
    have h4 : decide ((a + 65536 - b) % 65536 ≤ 32767) = true := decide_eq_true h3
    clear h e
    go_enter Tryz.func74, Tryz.ntmps74
    go_wp2
    go_ret
    exact ⟨rfl, rfl⟩
  | false =>
    have h1 := newB_no h
    rw [← e] at h1
    by_cases h2 : 1 ≤ (a + 65536 - b) % 65536
    · have h3 : decide ((a + 65536 - b) % 65536 ≤ 32767) = false := decide_eq_false (by omega)
      clear h h1 e
      go_enter Tryz.func74, Tryz.ntmps74
      go_wp2
      go_ret
      exact ⟨rfl, rfl⟩
    · clear h h1 e
      go_enter Tryz.func74, Tryz.ntmps74
      go_wp2
      go_ret
      exact ⟨rfl, rfl⟩
end Go.Proofs.YtgmeakcfiaopcaaGreat

/- Rows of integers: those that came in, those that a call made, pieces of them, one appended to another. Nothing here speaks of one program. -/
namespace Go.Proofs.YtgmeakcfiaopcaaGreat
open Go.RowKit

theorem size_alloc (w : World) (o : Obj) : (w.alloc o).heap.size = w.heap.size + 1 := by simp
theorem below_alloc (w : World) (o : Obj) : Below w.heap.size w (w.alloc o) := (Below.refl _ _).alloc (Nat.le_refl _) o

section
variable {w w' : World} {k : IntKind} {A : Option Addr} {n c B : Nat} {e : TypeId} {zs : List Int}

theorem IntRow.keep (h : IntRow w k A n c zs) (hs : w.heap.size ≤ w'.heap.size) (hk : ∀ b o, b < w.heap.size → w'.cell? ⟨b, o, none⟩ = w.cell? ⟨b, o, none⟩) : IntRow w' k A n c zs :=
  ⟨h.len_eq, h.cap_le, h.max, h.nil, fun hn => by
    obtain ⟨b, off, e, hb, hc⟩ := h.cell hn
    exact ⟨b, off, e, Nat.lt_of_lt_of_le hb hs, fun j hj => (hk _ _ hb).trans (hc j hj)⟩, h.wf⟩
theorem IntRow.below (h : IntRow w k A n c zs) (hb : Below w.heap.size w w') : IntRow w' k A n c zs := h.keep hb.size fun b o hlt => hb.cell (p := ⟨b, o, none⟩) hlt
theorem IntRow.alloc (h : IntRow w k A n c zs) (o : Obj) : IntRow (w.alloc o) k A n c zs := h.below (below_alloc w o)
theorem IntRow.drewN (h : IntRow w k A n c zs) (m : Nat) : IntRow (w.drewN m) k A n c zs := h.below (below_drewN (Below.refl _ _) m)
theorem IntRow.pre (h : IntRow w k A n c zs) {m : Nat} (hm : m ≤ n) : IntRow w k A m c (zs.take m) :=
  ⟨by rw [List.length_take, h.len_eq]; omega, Nat.le_trans hm h.cap_le, h.max, h.nil, fun h0 => by
    obtain ⟨b, off, e, hb, hc⟩ := h.cell (by omega)
    refine ⟨b, off, e, hb, fun j hj => ?_⟩
    rw [hc j (by omega)]
    simp [List.getD, hj], fun n hn => h.wf n (List.mem_of_mem_take hn)⟩
/-- The integers that lie in a row, as cells. -/
theorem IntRow.of_own (h : w.ownsRow B e 1 (.slice A n c) n (zs.map (.int k))) (hw : ∀ n ∈ zs, (Lit.int k n).wf = true) : IntRow w k A n c zs := by
  have hl : zs.length = n := by have := h.1; simpa using this
  rcases h.2 with ⟨he, hn⟩ | ⟨g, cap, cur, he, hB, hg, hnc, hcm, hcs, htake⟩
  · simp only [Value.slice.injEq] at he
    obtain ⟨rfl, rfl, rfl⟩ := he
    exact ⟨hl, Nat.le_refl _, by simp [maxLen], fun _ => rfl, fun h => absurd h (Nat.lt_irrefl _), hw⟩
  · simp only [Value.slice.injEq, true_and] at he
    obtain ⟨rfl, rfl⟩ := he
    refine ⟨hl, hnc, hcm, (fun h => by cases h), fun h0 => ⟨g, 0, rfl, (Array.getElem?_eq_some_iff.1 hg).1, fun j hj => ?_⟩, hw⟩
    have := World.ownsRow.cellAt h j (by omega)
    rw [Nat.zero_add, this]
    simp [List.getD, show j < zs.length by omega]
theorem own_keep {v : Value} {xs : List Value} (h : w.ownsRow B e 1 v n xs) (hb : Below w.heap.size w w') : w'.ownsRow B e 1 v n xs :=
  h.kept (row := none) ⟨hb.os, hb.tape, hb.output, hb.size, fun k hk _ => hb.block k hk⟩ (by
    rcases h.2 with ⟨rfl, _⟩ | ⟨g, cap, cur, rfl, _⟩
    · exact .inl rfl
    · exact .inr (by simp [Value.ownBlock]))
theorem own_mono {v : Value} {xs : List Value} (h : w.ownsRow B e 1 v n xs) {B' : Nat} (hB : B' ≤ B) : w.ownsRow B' e 1 v n xs :=
  ⟨h.1, by
    rcases h.2 with h | ⟨g, cap, cur, rfl, hg, r⟩
    · exact .inl h
    · exact .inr ⟨g, cap, cur, rfl, Nat.le_trans hB hg, r⟩⟩
end

section
variable {w w' : World} {k : IntKind} {A : Option Addr} {n c B : Nat} {e : TypeId} {zs : List Int}
/-- A cell of a row of the call's own is written. -/
theorem own_set {g : Nat} (h : w.ownsRow B e 1 (.slice (some ⟨g, 0, none⟩) n c) n (zs.map (.int k))) (j : Nat) (z : Int) :
    (w.setCell ⟨g, j, none⟩ (.int k z)).ownsRow B e 1 (.slice (some ⟨g, 0, none⟩) n c) n ((zs.set j z).map (.int k)) := by
  rw [List.map_set]
  exact (h.stored j _).1
theorem own_cell {g : Nat} (h : w.ownsRow B e 1 (.slice (some ⟨g, 0, none⟩) n c) n (zs.map (.int k))) {j : Nat} (hj : j < n) : w.cell? ⟨g, j, none⟩ = some (.int k (zs[j]?.getD 0)) := by
  have hl := h.1
  rw [List.length_map, Nat.mul_one] at hl
  have := World.ownsRow.cellAt h j (by omega)
  rw [this, List.getElem?_map, List.getElem?_eq_getElem (by omega)]
  rfl
theorem own_form {A : Option Addr} (h : w.ownsRow B e 1 (.slice A n c) n (zs.map (.int k))) (hn : 0 < n) : ∃ g, A = some ⟨g, 0, none⟩ ∧ B ≤ g ∧ g < w.heap.size := by
  obtain ⟨g, cap, he, h1, h2⟩ := h.form hn
  simp only [Value.slice.injEq] at he
  exact ⟨g, he.1, h1, h2⟩
end
theorem wf_set {k : IntKind} {zs : List Int} (h : ∀ n ∈ zs, (Lit.int k n).wf = true) {z : Int} (hz : (Lit.int k z).wf = true) (j : Nat) : ∀ n ∈ zs.set j z, (Lit.int k n).wf = true := fun n hn => by
  rcases List.mem_or_eq_of_mem_set hn with h1 | rfl
  · exact h n h1
  · exact hz

/-- A row that was just laid. -/
theorem IntRow.laid (w : World) (e : TypeId) (k : IntKind) (zs : List Int) (m : Nat) (hm : zs.length = m) (h63 : m ≤ maxLen) (hw : ∀ n ∈ zs, (Lit.int k n).wf = true) :
    IntRow (w.alloc (.cells (zs.map (Value.int k)).toArray e)) k (some ⟨w.heap.size, 0, none⟩) m m zs :=
  IntRow.of_own (B := 0) (e := e) (by simpa using World.ownsRow_lit (base := 0) (size := 1) w (zs.map (Value.int k)).toArray m (Nat.zero_le _) h63 (by simp [hm])) hw
/-- A constant row that was just laid. -/
theorem IntRow.laid_fr (w : World) (e : TypeId) (k : IntKind) (zs : List Int) (m : Nat) (fr : Nat × Nat) (hm : zs.length = m) (h63 : m ≤ maxLen) (hw : ∀ n ∈ zs, (Lit.int k n).wf = true) :
    IntRow (w.alloc (.cells (zs.map (Value.int k)).toArray e fr)) k (some ⟨w.heap.size, 0, none⟩) m m zs :=
  ⟨hm, Nat.le_refl _, h63, (fun h => by cases h), fun _ => ⟨_, 0, rfl, by simp, fun j hj => by
    rw [Nat.zero_add, cell_of_row _ _ j _ e fr (heap_alloc_new w _)]
    simp [List.getD, show j < zs.length by omega]⟩, hw⟩
/-- A call answers a row of integers of its own. -/
def GaveRow (el : TypeId) (k : IntKind) (w : World) (n : Nat) (zs : List Int) (e : Ending) (w' : World) : Prop :=
  ∃ A c, e = .returned (.slice A n c) ∧ w'.ownsRow w.heap.size el 1 (.slice A n c) n (zs.map (.int k)) ∧ Below w.heap.size w w'
theorem gave {el : TypeId} {k : IntKind} {w w' : World} {n : Nat} {zs : List Int} {A : Option Addr} {c : Nat} (ho : w'.ownsRow w.heap.size el 1 (.slice A n c) n (zs.map (.int k))) (hb : Below w.heap.size w w') :
    GaveRow el k w n zs (.returned (.slice A n c)) w' := ⟨A, c, rfl, ho, hb⟩

section
variable {P : Program} (w : World)
theorem run_append_row (B : Nat) (t ty e : TypeId) (i : TypeInfo) (z : Value) (bytes : Nat) (ht : P.underlying t = some (.slice e)) (hi : P.info? e = some i) (hz : i.zero = some z)
    (hsize : i.size = 1) (hby : i.bytes = bytes) (hzs : z.cells.size = 1) (v : Value) (n : Nat) (xs : List Value) (hown : w.ownsRow B e 1 v n xs)
    (k : IntKind) (A : Option Addr) (m c : Nat) (zs : List Int) (hr : IntRow w k A m c zs) (h63 : n + m ≤ maxLen) (hbytes : (n + m) * bytes ≤ 140737488355328) (hbase : B ≤ w.heap.size) :
    ∃ A' c' w', (Builtin.append_ #[t, t] ty #[v, .slice A m c]).run P w = .ok (.slice A' (n + m) c') w' ∧ w'.ownsRow B e 1 (.slice A' (n + m) c') (n + m) (xs ++ zs.map (.int k)) ∧ Below B w w' := by
  have hshape : ∀ (w1 : World) (v1 : Value) (l : Nat) (ys : List Value), w1.ownsRow B e 1 v1 l ys → ∃ A' c', v1 = .slice A' l c' := by
    intro w1 v1 l ys h
    rcases h.2 with ⟨rfl, rfl⟩ | ⟨g, cap, cur, rfl, _⟩
    · exact ⟨_, _, rfl⟩
    · exact ⟨_, _, rfl⟩
  rcases A with _ | ad
  · have hc := hr.nil rfl
    have hcl := hr.cap_le
    obtain rfl : m = 0 := by omega
    have hn : zs = [] := List.eq_nil_of_length_eq_zero hr.len_eq
    subst hn
    obtain ⟨A', c', rfl⟩ := hshape _ _ _ _ hown
    refine ⟨A', c', w, ?_, by simpa using hown, Below.refl _ _⟩
    rw [Nat.add_zero]
    exact run_append_owned_none (P := P) w B t ty e i 1 ht hi _ n xs hown
  · obtain ⟨v', w', h1, h2, h3, _, _⟩ := run_append_own_at (P := P) w B t ty e i z 1 bytes ht hi hz hsize hby hzs (by omega) v n xs hown ad m c (zs.map (.int k)) (by simpa using hr.len_eq)
      (fun j u hu => by
        have hj : j < m := by
          have := (List.getElem?_eq_some_iff.1 hu).1
          have := hr.len_eq
          simp at *
          omega
        obtain ⟨b, off, e1, _, hc⟩ := hr.cell (by omega)
        simp only [Option.some.injEq] at e1
        subst e1
        have hp : (⟨b, off, none⟩ : Addr).add j = ⟨b, off + j, none⟩ := by unfold Addr.add; split <;> simp_all
        rw [hp, hc j hj]
        have hjl : j < zs.length := by rw [hr.len_eq]; exact hj
        simp [List.getElem?_eq_getElem hjl] at hu
        simp [List.getD, List.getElem?_eq_getElem hjl, hu])
      (ints_oneCell k zs) h63 hbytes hbase
    obtain ⟨A', c', rfl⟩ := hshape _ _ _ _ h2
    exact ⟨A', c', w', h1, h2, (Below.refl _ _).grown h3 hbase (fun g hg => (hown.lt g hg).1)⟩

/-- What is appended to a row of the call's own is a row that reads. -/
theorem wpList_append_row {ops : Array Oper} {rest : List Oper} {o : Oper} {a : Act} {Q : Exit → Act → World → Prop} (hgd : o.guard = none) (s x : Operand) (t : TypeId)
    (ho : o.op = .call { callee := .builtin .append, args := #[s, x], argTypes := #[t, t] })
    (B : Nat) (e : TypeId) (i : TypeInfo) (z : Value) (bytes : Nat) (ht : P.underlying t = some (.slice e)) (hi : P.info? e = some i) (hz : i.zero = some z)
    (hsize : i.size = 1) (hby : i.bytes = bytes) (hzs : z.cells.size = 1) (v : Value) (n : Nat) (xs : List Value) (hs : a.eval s = v) (hown : w.ownsRow B e 1 v n xs)
    (k : IntKind) (A : Option Addr) (m c : Nat) (zs : List Int) (hx : a.eval x = .slice A m c) (hr : IntRow w k A m c zs) (h63 : n + m ≤ maxLen) (hbytes : (n + m) * bytes ≤ 140737488355328) (hbase : B ≤ w.heap.size)
    (h : ∀ A' c' w', w'.ownsRow B e 1 (.slice A' (n + m) c') (n + m) (xs ++ zs.map (.int k)) → Below B w w' → wpList P ops Q rest (a.put o.dst (.slice A' (n + m) c')) w') :
    wpList P ops Q (o :: rest) a w := by
  refine wpList_plain hgd fun K hK => ?_
  obtain ⟨A', c', w', hrun, h2, h3⟩ := run_append_row (P := P) w B t o.type e i z bytes ht hi hz hsize hby hzs v n xs hown k A m c zs hr h63 hbytes hbase
  unfold Oper.wp execOp
  simp only [ho, resolve, invoke, builtin, Sem.run_bind, Sem.run_pure, Result.andThen_ok, List.map_toArray, List.map_cons, List.map_nil, hs, hx, hrun]
  exact hK _ _ (h A' c' w' h2 h3)

/-- Bytes that lie in a row, as a string. -/
theorem run_convert_row (src e dst : TypeId) (hs : P.underlying src = some (.slice e)) (he : P.underlying e = some (.int .u8)) (hd : P.underlying dst = some .string)
    (A : Option Addr) (m c : Nat) (zs : List Int) (hr : IntRow w .u8 A m c zs) : (convert src dst (.slice A m c)).run P w = .ok (.string (strOfNums zs)) w := by
  rcases A with _ | ad
  · have hc := hr.nil rfl
    have hcl := hr.cap_le
    obtain rfl : m = 0 := by omega
    have hn : zs = [] := List.eq_nil_of_length_eq_zero hr.len_eq
    subst hn
    exact run_convert_bytes_nil (P := P) w src e hs he 0 c dst hd
  · by_cases hm : 0 < m
    · obtain ⟨b, off, e1, _, hc⟩ := hr.cell hm
      simp only [Option.some.injEq] at e1
      subst e1
      exact run_convert_bytes_arg (P := P) w src e hs he b off m c zs hr.len_eq hc dst hd
    · obtain rfl : m = 0 := by omega
      have hn : zs = [] := List.eq_nil_of_length_eq_zero hr.len_eq
      subst hn
      rw [run_convert_bytes_string w src dst e _ 0 c hs he hd]
      rfl
end
end Go.Proofs.YtgmeakcfiaopcaaGreat

/- Blocks of a call's own that are known whole (structs behind pointers), and rows of integers beside them. Nothing here speaks of one program. -/
namespace Go.Proofs.YtgmeakcfiaopcaaGreat
open Go.RowKit

/-- Block g holds just these cells, and none is frozen. -/
def Holds (w : World) (g : Nat) (t : TypeId) (cs : Array Value) : Prop := w.heap[g]? = some (.cells cs t (0, 0))

section
variable {w w' : World} {g : Nat} {t : TypeId} {cs : Array Value}
theorem Holds.lt (h : Holds w g t cs) : g < w.heap.size := (Array.getElem?_eq_some_iff.1 h).1
theorem Holds.cell (h : Holds w g t cs) (i : Nat) : w.cell? ⟨g, i, none⟩ = cs[i]? := cell_of_row w g i cs t (0, 0) h
theorem Holds.soft (h : Holds w g t cs) (i : Nat) : w.frozen? ⟨g, i, none⟩ = false := by
  have h' : w.heap[g]? = _ := h
  simp [World.frozen?, h']
theorem Holds.new (w : World) (t : TypeId) (cs : Array Value) : Holds (w.alloc (.cells cs t)) w.heap.size t cs := heap_alloc_new w _
theorem Holds.drewN (h : Holds w g t cs) (n : Nat) : Holds (w.drewN n) g t cs := h
theorem Holds.alloc (h : Holds w g t cs) (o : Obj) : Holds (w.alloc o) g t cs := (Below.heap_alloc w o g h.lt).trans h
theorem Holds.put (h : Holds w g t cs) (i : Nat) (u : Value) : Holds (w.setCell ⟨g, i, none⟩ u) g t (cs.setIfInBounds i u) := by
  have h' : w.heap[g]? = _ := h
  show (w.setCell ⟨g, i, none⟩ u).heap[g]? = _
  simp [World.setCell, Array.getElem?_modify, h']
theorem Holds.far (h : Holds w g t cs) {b i : Nat} (hb : g ≠ b) (u : Value) : Holds (w.setCell ⟨b, i, none⟩ u) g t cs := (Below.heap_setCell w ⟨b, i, none⟩ u g hb).trans h
theorem Holds.below {B : Nat} (h : Holds w g t cs) (hb : Below B w w') (hg : g < B) : Holds w' g t cs := (hb.block g hg).trans h
theorem Holds.grown {row : Option Nat} (h : Holds w g t cs) (hb : w.grownBy w' row) (hg : some g ≠ row) : Holds w' g t cs := (hb.block g h.lt hg).trans h
theorem Holds.apart {g' : Nat} {t' : TypeId} {cs' : Array Value} (h : Holds w g t cs) (h' : Holds w g' t' cs') (hne : t ≠ t') : g ≠ g' := by
  rintro rfl
  have e : some (Obj.cells cs t (0, 0)) = some (Obj.cells cs' t' (0, 0)) := h.symm.trans h'
  simp only [Option.some.injEq, Obj.cells.injEq] at e
  exact hne e.2.1
/-- A row of the call's own lies in another block than a struct of another type. -/
theorem Holds.own_apart {B : Nat} {e : TypeId} {n sz : Nat} {v : Value} {xs : List Value} (h : Holds w g t cs) (ho : w.ownsRow B e sz v n xs) (hne : e ≠ t) : v.ownBlock ≠ some g := by
  rcases ho.2 with ⟨rfl, _⟩ | ⟨g', cap, cur, rfl, _, hh, _⟩
  · simp [Value.ownBlock]
  · intro he
    have e' : g' = g := by simpa [Value.ownBlock] using he
    subst e'
    exact Holds.apart (t := e) hh h hne rfl
end

theorem grown_set (w : World) (g i : Nat) (u : Value) : w.grownBy (w.setCell ⟨g, i, none⟩ u) (some g) :=
  ⟨rfl, rfl, rfl, by simp [World.setCell], fun k _ hk => Below.heap_setCell w ⟨g, i, none⟩ u k (fun e => hk (by rw [e]))⟩
theorem grown_trans {a b c : World} {row : Option Nat} (h : a.grownBy b row) (k : b.grownBy c row) : a.grownBy c row :=
  ⟨k.os.trans h.os, k.tape.trans h.tape, k.output.trans h.output, Nat.le_trans h.size k.size, fun i hi hr => (k.block i (Nat.lt_of_lt_of_le hi h.size) hr).trans (h.block i hi hr)⟩
theorem grown_drewN {a b : World} {row : Option Nat} (h : a.grownBy b row) (n : Nat) : a.grownBy (b.drewN n) row := ⟨h.os, h.tape, h.output, h.size, h.block⟩

/-- A row of integers whose block, if there is one, is not older than B. -/
structure NewRow (B : Nat) (w : World) (k : IntKind) (A : Option Addr) (n c : Nat) (zs : List Int) : Prop where
  row : IntRow w k A n c zs
  newer : 0 < n → ∃ b off, A = some ⟨b, off, none⟩ ∧ B ≤ b

section
variable {w w' : World} {k : IntKind} {A : Option Addr} {n c B : Nat} {zs : List Int}
theorem NewRow.block (h : NewRow B w k A n c zs) (hn : 0 < n) : ∃ b off, A = some ⟨b, off, none⟩ ∧ B ≤ b ∧ b < w.heap.size ∧ ∀ j, j < n → w.cell? ⟨b, off + j, none⟩ = some (.int k (zs.getD j 0)) := by
  obtain ⟨b, off, e, hb⟩ := h.newer hn
  obtain ⟨b', off', e', hs, hc⟩ := h.row.cell hn
  rw [e] at e'
  simp only [Option.some.injEq, Addr.mk.injEq] at e'
  obtain ⟨rfl, rfl, _⟩ := e'
  exact ⟨b, off, e, hb, hs, hc⟩
theorem IntRow.keep1 (h : IntRow w k A n c zs) (hs : w.heap.size ≤ w'.heap.size) (hk : ∀ b off, A = some ⟨b, off, none⟩ → 0 < n → ∀ o, w'.cell? ⟨b, o, none⟩ = w.cell? ⟨b, o, none⟩) : IntRow w' k A n c zs :=
  ⟨h.len_eq, h.cap_le, h.max, h.nil, fun hn => by
    obtain ⟨b, off, e, hb, hc⟩ := h.cell hn
    exact ⟨b, off, e, Nat.lt_of_lt_of_le hb hs, fun j hj => (hk b off e hn _).trans (hc j hj)⟩, h.wf⟩
/-- Nothing changed but block g, which holds none of the row's integers. -/
theorem IntRow.grown {g : Nat} {t : TypeId} {cs : Array Value} (h : IntRow w k A n c zs) (hg : w.grownBy w' (some g)) (ho : Holds w g t cs) (hcs : ∀ (i : Nat) z, cs[i]? ≠ some (Value.int k z)) : IntRow w' k A n c zs := by
  refine h.keep1 hg.size fun b off e hn o => ?_
  obtain ⟨b', off', e', hs, hc⟩ := h.cell hn
  rw [e] at e'
  simp only [Option.some.injEq, Addr.mk.injEq] at e'
  obtain ⟨rfl, rfl, _⟩ := e'
  refine World.cell?_of_block (hg.block b hs fun e => ?_)
  simp only [Option.some.injEq] at e
  subst e
  have h0 := hc 0 hn
  rw [ho.cell] at h0
  exact hcs _ _ h0
theorem NewRow.grown {g : Nat} {t : TypeId} {cs : Array Value} (h : NewRow B w k A n c zs) (hg : w.grownBy w' (some g)) (ho : Holds w g t cs) (hcs : ∀ (i : Nat) z, cs[i]? ≠ some (Value.int k z)) : NewRow B w' k A n c zs := ⟨h.row.grown hg ho hcs, h.newer⟩
theorem NewRow.below (h : NewRow B w k A n c zs) (hb : Below w.heap.size w w') : NewRow B w' k A n c zs := ⟨h.row.below hb, h.newer⟩
/-- Cells of blocks older than the row's were written. -/
theorem NewRow.older (h : NewRow B w k A n c zs) {b i : Nat} (hb : b < B) (u : Value) : NewRow B (w.setCell ⟨b, i, none⟩ u) k A n c zs := by
  refine ⟨h.row.keep1 (by simp [World.setCell]) fun b' off e hn o => ?_, h.newer⟩
  obtain ⟨b2, off2, e2, hB⟩ := h.newer hn
  rw [e] at e2
  simp only [Option.some.injEq, Addr.mk.injEq] at e2
  refine World.cell?_of_block (Below.heap_setCell w ⟨b, i, none⟩ u b' (by show b' ≠ b; omega))
theorem NewRow.mono {B' : Nat} (h : NewRow B w k A n c zs) (hB : B' ≤ B) : NewRow B' w k A n c zs := ⟨h.row, fun hn => by
  obtain ⟨b, off, e, hb⟩ := h.newer hn
  exact ⟨b, off, e, by omega⟩⟩
theorem NewRow.of_own {e : TypeId} (h : w.ownsRow B e 1 (.slice A n c) n (zs.map (.int k))) (hw : ∀ n ∈ zs, (Lit.int k n).wf = true) : NewRow B w k A n c zs :=
  ⟨IntRow.of_own h hw, fun hn => by
    obtain ⟨g, e, hg, _⟩ := own_form h hn
    exact ⟨g, 0, e, hg⟩⟩
/-- The first m integers cut off, as the model spells the address behind the cut. -/
theorem NewRow.cut (h : NewRow B w k A n c zs) {m : Nat} (hm : m ≤ n) : NewRow B w k (if c = m then A else A.map (·.add m)) (n - m) (c - m) (zs.drop m) := by
  have hc := h.row.cap_le
  have hx := h.row.max
  have ha : ∀ b off, (⟨b, off, none⟩ : Addr).add m = ⟨b, off + m, none⟩ := fun b off => by unfold Addr.add; split <;> simp_all
  refine ⟨⟨by rw [List.length_drop, h.row.len_eq], by omega, by omega, fun e => ?_, fun hn => ?_, fun z hz => h.row.wf z (List.mem_of_mem_drop hz)⟩, fun hn => ?_⟩
  · split at e
    · have := h.row.nil e
      omega
    · have := h.row.nil (by cases A <;> simp_all)
      omega
  · obtain ⟨b, off, rfl, _, hb, hcell⟩ := h.block (by omega)
    rw [if_neg (by omega)]
    refine ⟨b, off + m, by rw [← ha]; rfl, hb, fun j hj => ?_⟩
    rw [Nat.add_assoc, hcell (m + j) (by omega)]
    simp [List.getD, List.getElem?_drop]
  · obtain ⟨b, off, rfl, hB, _, _⟩ := h.block (by omega)
    rw [if_neg (by omega)]
    exact ⟨b, off + m, by rw [← ha]; rfl, hB⟩
end
theorem IntRow.cut {w : World} {k : IntKind} {A : Option Addr} {n c : Nat} {zs : List Int} (h : IntRow w k A n c zs) {m : Nat} (hm : m ≤ n) :
    IntRow w k (if c = m then A else A.map (·.add m)) (n - m) (c - m) (zs.drop m) :=
  (NewRow.cut (B := 0) ⟨h, fun hn => by
    obtain ⟨b, off, e, _⟩ := h.cell hn
    exact ⟨b, off, e, Nat.zero_le _⟩⟩ hm).row
end Go.Proofs.YtgmeakcfiaopcaaGreat

/- Rows of elements of several cells: copied, cleared, cut, appended to; blocks known whole. Nothing here speaks of one program. -/
namespace Go.Proofs.YtgmeakcfiaopcaaGreat
open Go.RowKit

theorem take_splice_le {α : Type} (L : List α) (o : Nat) (cs : List α) (m : Nat) (h : m ≤ o) (ho : o ≤ L.length) : (splice L o cs).take m = L.take m := by
  unfold splice
  rw [List.take_append_of_le_length (by rw [List.length_take]; omega), List.take_take, Nat.min_eq_left h]
theorem take_splice_end {α : Type} (L : List α) (o : Nat) (cs : List α) (m : Nat) (h : m = o + cs.length) (ho : o ≤ L.length) : (splice L o cs).take m = L.take o ++ cs := by
  subst h
  unfold splice
  rw [← List.append_assoc, List.take_append_of_le_length (by simp; omega), List.take_of_length_le (by simp; omega)]
theorem splice_insert {α : Type} (L : List α) (a b m : Nat) (Y v : List α) (hv : a + v.length = b) (hb : b + Y.length ≤ L.length) (hm : m = b + Y.length) : (splice (splice L b Y) a v).take m = L.take a ++ (v ++ Y) := by
  subst hm
  subst hv
  have e1 : (splice L (a + v.length) Y).take a = L.take a := take_splice_le _ _ _ _ (by omega) (by omega)
  have e2 : (splice L (a + v.length) Y).drop (a + v.length) = Y ++ L.drop (a + v.length + Y.length) := by
    unfold splice
    rw [List.drop_append, List.drop_eq_nil_of_le (by rw [List.length_take]; omega), List.nil_append, List.length_take, Nat.min_eq_left (by omega), Nat.sub_self, List.drop_zero]
  generalize hS : splice L (a + v.length) Y = S at e1 e2
  unfold splice
  rw [e1, e2, ← List.append_assoc, ← List.append_assoc, List.take_append_of_le_length (by simp; omega), List.take_of_length_le (by simp; omega), List.append_assoc]
theorem splice_fill {α : Type} (L : List α) (a b m : Nat) (v Y : List α) (hv : a + v.length = b) (hb : b + Y.length ≤ L.length) (hm : m = b + Y.length) : (splice (splice L a v) b Y).take m = L.take a ++ (v ++ Y) := by
  rw [take_splice_end _ _ _ _ hm (by rw [length_splice _ _ _ (by omega)]; omega), take_splice_end _ _ _ _ hv.symm (by omega), List.append_assoc]

section
variable {P : Program} (w : World)
/-- Cells copied into a block that is known whole. -/
theorem run_copyK (dT sT ty elem : TypeId) (k g o dLen dCap : Nat) (ad : Addr) (sLen sCap : Nat) (cur : List Value) (t : TypeId) (cs : List Value)
    (hu : P.underlying dT = some (.slice elem)) (hs : (P.info? elem).map (·.size) = some k) (hg : Holds w g t cur.toArray) (hn : cs.length = Nat.min sLen dLen * k)
    (hsrc : ∀ j v, cs[j]? = some v → w.cell? (ad.add j) = some v) (hfit : o + cs.length ≤ cur.length) (h1 : ∀ v ∈ cs, v.oneCell' = true) :
    (Builtin.copy_ #[dT, sT] ty #[.slice (some ⟨g, o, none⟩) dLen dCap, .slice (some ad) sLen sCap]).run P w = .ok (goInt (Nat.min sLen dLen)) (w.setRow g (splice cur o cs).toArray) := by
  have hl := run_loadCells_list (P := P) w ad cs hsrc
  have hst := run_storeCells_at P g o t cs 0 cur.toArray w hg (by simpa using hfit) h1
  cases hq : P.info? elem with
  | none => simp [hq] at hs
  | some i =>
    have hi : i.size = k := by simpa [hq] using hs
    simp [Builtin.copy_, run_underlying hu, Builtin.lenOf, Builtin.firstCells, sizeOf, typeInfo, hq, hi, ← hn, hl, hst, splice]
/-- A row's cells cleared. -/
theorem run_clearK (t e ty : TypeId) (z : Value) (ht : P.underlying t = some (.slice e)) (hv : ∀ w, (zeroValue e).run P w = .ok z w) (g o n c : Nat) (hn : 0 < n) (cur : List Value) (te : TypeId)
    (hg : Holds w g te cur.toArray) (hfit : o + (Builtin.zeroCells z.cells n).size ≤ cur.length) (h1 : ∀ v ∈ (Builtin.zeroCells z.cells n).toList, v.oneCell' = true) :
    (Builtin.clear_ #[t] ty #[.slice (some ⟨g, o, none⟩) n c]).run P w = .ok (.tuple #[]) (w.setRow g (splice cur o (Builtin.zeroCells z.cells n).toList).toArray) := by
  have hst := run_storeCells_at P g o te (Builtin.zeroCells z.cells n).toList 0 cur.toArray w hg (by simpa using hfit) h1
  obtain ⟨m, rfl⟩ : ∃ m, n = m + 1 := ⟨n - 1, by omega⟩
  simp only [Nat.add_zero] at hst
  simp [Builtin.clear_, run_underlying ht, hv, hst, splice]
theorem zeros_two (x : Value) (n : Nat) : ∀ v ∈ (Builtin.zeroCells #[x, x] n).toList, v = x := by
  intro v hv
  simp [Builtin.zeroCells] at hv
  obtain ⟨a, _, rfl⟩ := hv
  have : a % 2 = 0 ∨ a % 2 = 1 := by omega
  rcases this with h | h <;> simp [h]
end

section
variable {w w' : World} {g : Nat} {t : TypeId} {cs : Array Value}
theorem Holds.row (h : Holds w g t cs) (cs' : Array Value) : Holds (w.setRow g cs') g t cs' := setRow_heap w g cs cs' t (0, 0) h
theorem grown_row (w : World) (g : Nat) (cs : Array Value) : w.grownBy (w.setRow g cs) (some g) := ⟨rfl, rfl, rfl, by simp, fun k _ hk => setRow_other w g k cs (fun e => hk (by rw [e]))⟩
/-- A row that a block holds. -/
theorem own_mk {B k n cap : Nat} {cur xs : List Value} (h : Holds w g t cur.toArray) (hB : B ≤ g) (hn : n ≤ cap) (hc : cap ≤ maxLen) (hl : cur.length = cap * k) (hx : cur.take (n * k) = xs) :
    w.ownsRow B t k (.slice (some ⟨g, 0, none⟩) n cap) n xs :=
  ⟨by rw [← hx, List.length_take, hl, Nat.min_eq_left (Nat.mul_le_mul_right _ hn)], .inr ⟨g, cap, cur.toArray, rfl, hB, h, hn, hc, by simpa using hl, by simpa using hx⟩⟩
theorem own_open {B k n : Nat} {v : Value} {e : TypeId} {xs : List Value} (h : w.ownsRow B e k v n xs) :
    (v = .slice none 0 0 ∧ n = 0 ∧ xs = []) ∨ ∃ g cap, ∃ cur : List Value, v = .slice (some ⟨g, 0, none⟩) n cap ∧ B ≤ g ∧ Holds w g e cur.toArray ∧ n ≤ cap ∧ cap ≤ maxLen ∧ cur.length = cap * k ∧ cur.take (n * k) = xs := by
  rcases h.2 with ⟨rfl, rfl⟩ | ⟨g, cap, cur, rfl, hB, hg, hn, hc, hs, hx⟩
  · exact .inl ⟨rfl, rfl, List.eq_nil_of_length_eq_zero (by simpa using h.1)⟩
  · exact .inr ⟨g, cap, cur.toList, rfl, hB, (show w.heap[g]? = _ by simpa using hg), hn, hc, by simpa using hs, hx⟩
end

section
variable {P : Program}
/-- A builtin whose run is known, as one step of a region that draws its order; and in a walk. -/
theorem step_copy_known {w : World} {ops : Array Oper} {o : Oper} {a : Act} {K : Act → World → Prop} {Q : Exit → Act → World → Prop} {E : Prop}
    (hg : o.guard = none) (d x : Operand) (dT sT : TypeId) (hop : o.op = Op.call { callee := Callee.builtin Builtin.copy, args := #[d, x], argTypes := #[dT, sT] })
    (v u : Value) (hd : a.eval d = v) (hx : a.eval x = u) {v' : Value} {w' : World} (hr : (Builtin.copy_ #[dT, sT] o.type #[v, u]).run P w = .ok v' w') (hK : K (a.put o.dst v') w') :
    if Region.wanted o (yielded ops a.tmps) = true then Oper.wp P o a w K Q else E := by
  have hw : Region.wanted o (yielded ops a.tmps) = true := by simp [Region.wanted, hg]
  rw [if_pos hw]
  unfold Oper.wp
  simp [execOp, hop, resolve, invoke, builtin, hd, hx, hr, Result.andThen]
  exact hK
theorem wpList_copy_known (w : World) {ops : Array Oper} {rest : List Oper} {o : Oper} {a : Act} {Q : Exit → Act → World → Prop} (hgd : o.guard = none) (d s : Operand) (t t' : TypeId)
    (ho : o.op = .call { callee := .builtin .copy, args := #[d, s], argTypes := #[t, t'] }) (v u : Value) (hd : a.eval d = v) (hs : a.eval s = u) {v' : Value} {w' : World}
    (hr : (Builtin.copy_ #[t, t'] o.type #[v, u]).run P w = .ok v' w') (h : wpList P ops Q rest (a.put o.dst v') w') : wpList P ops Q (o :: rest) a w := by
  refine wpList_plain hgd fun K hK => ?_
  unfold Oper.wp execOp
  simp only [ho, resolve, invoke, builtin, Sem.run_bind, Sem.run_pure, Result.andThen_ok, List.map_toArray, List.map_cons, List.map_nil, hd, hs, hr]
  exact hK _ _ h
theorem step_append_known {w : World} {ops : Array Oper} {o : Oper} {a : Act} {K : Act → World → Prop} {Q : Exit → Act → World → Prop} {E : Prop}
    (hg : o.guard = none) (d x : Operand) (dT sT : TypeId) (hop : o.op = Op.call { callee := Callee.builtin Builtin.append, args := #[d, x], argTypes := #[dT, sT] })
    (v u : Value) (hd : a.eval d = v) (hx : a.eval x = u) {v' : Value} {w' : World} (hr : (Builtin.append_ #[dT, sT] o.type #[v, u]).run P w = .ok v' w') (hK : K (a.put o.dst v') w') :
    if Region.wanted o (yielded ops a.tmps) = true then Oper.wp P o a w K Q else E := by
  have hw : Region.wanted o (yielded ops a.tmps) = true := by simp [Region.wanted, hg]
  rw [if_pos hw]
  unfold Oper.wp
  simp [execOp, hop, resolve, invoke, builtin, hd, hx, hr, Result.andThen]
  exact hK
end

section
variable {P : Program} (w : World)
theorem own_shape {w : World} {B k n : Nat} {e : TypeId} {v : Value} {xs : List Value} (h : w.ownsRow B e k v n xs) : ∃ A c, v = .slice A n c := by
  rcases own_open h with ⟨rfl, rfl, _⟩ | ⟨g, cap, cur, rfl, _⟩
  · exact ⟨_, _, rfl⟩
  · exact ⟨_, _, rfl⟩
/-- A row of elements appended to a row of the call's own: in place, or to a new one. -/
theorem run_append_rowK (B : Nat) (t ty e : TypeId) (i : TypeInfo) (z : Value) (k bytes : Nat) (ht : P.underlying t = some (.slice e)) (hi : P.info? e = some i) (hz : i.zero = some z)
    (hsize : i.size = k) (hby : i.bytes = bytes) (hzs : z.cells.size = k) (hk : 0 < k) (v : Value) (n : Nat) (xs : List Value) (hown : w.ownsRow B e k v n xs)
    (ad : Addr) (m c : Nat) (news : List Value) (hl : news.length = m * k) (hnews : ∀ j u, news[j]? = some u → w.cell? (ad.add j) = some u) (h1 : ∀ u ∈ news, u.oneCell' = true)
    (h63 : n + m ≤ maxLen) (hbytes : (n + m) * bytes ≤ 140737488355328) (hbase : B ≤ w.heap.size) :
    ∃ A' c' w', (Builtin.append_ #[t, t] ty #[v, .slice (some ad) m c]).run P w = .ok (.slice A' (n + m) c') w' ∧ w'.ownsRow B e k (.slice A' (n + m) c') (n + m) (xs ++ news) ∧ w.grownBy w' v.ownBlock ∧
      ∀ q, (Value.slice A' (n + m) c').ownBlock = some q → v.ownBlock = some q ∨ w.heap.size ≤ q := by
  rcases own_open hown with ⟨rfl, rfl, rfl⟩ | ⟨g, cap, cur, rfl, hB, hH, hnc, hcm, hcl, hct⟩
  · obtain ⟨v', w', hr, h2, h3, _⟩ := run_append_own (P := P) w w.heap.size t ty e i z k bytes ht hi hz hsize hby hzs hk (.slice none 0 0) 0 [] (World.ownsRow_nil _ _ _ _) ad m c news hl hnews h1 h63 hbytes (Nat.le_refl _)
    obtain ⟨A', c', rfl⟩ := own_shape h2
    refine ⟨A', c', w', hr, ⟨h2.1, ?_⟩, h3, fun q hq => .inr (h2.lt q hq).1⟩
    rcases h2.2 with h | ⟨g, cap, cur, he, hg, r⟩
    · exact .inl h
    · exact .inr ⟨g, cap, cur, he, Nat.le_trans hbase hg, r⟩
  · have hH' : w.heap[g]? = _ := hH
    by_cases hroom : n + m ≤ cap
    · subst hsize
      have hm : n * i.size + news.length ≤ cur.length := by rw [hl, hcl, ← Nat.add_mul]; exact Nat.mul_le_mul_right _ hroom
      have hr := run_append_room (P := P) w t ty e i ht hi g n cap cur.toArray hH' ad m c news hl hnews h1 hroom (by simpa using hm)
      refine ⟨some ⟨g, 0, none⟩, cap, _, hr, ?_, grown_row w g _, fun q hq => .inl hq⟩
      refine own_mk (hH.row _) hB hroom hcm (by simp; omega) ?_
      have e : (n + m) * i.size = (cur.take (n * i.size) ++ news).length := by rw [List.length_append, List.length_take, hl, Nat.min_eq_left (by omega), Nat.add_mul]
      simp only [hct] at *
      rw [e, List.take_left]
    · have hxl : xs.length = n * k := hown.1
      obtain ⟨v', w', hr, h2, h3⟩ := run_append_arg_grows (P := P) w t ty e i z k bytes ht hi hz hsize hby hzs hk ⟨g, 0, none⟩ n cap xs hxl (hown.cells (g := g) rfl) ad m c news hl hnews (by omega) h63 hbytes
      obtain ⟨A', c', rfl⟩ := own_shape h2
      refine ⟨A', c', w', hr, ⟨h2.1, ?_⟩, ⟨h3.os, h3.tape, h3.output, h3.size, fun q hq _ => h3.block q hq (by simp)⟩, fun q hq => .inr (h2.lt q hq).1⟩
      rcases h2.2 with h | ⟨g', cap', cur', he, hg, r⟩
      · exact .inl h
      · exact .inr ⟨g', cap', cur', he, Nat.le_trans hbase hg, r⟩
/-- As run_append_rowK, in a walk. -/
theorem wpList_append_rowK {ops : Array Oper} {rest : List Oper} {o : Oper} {a : Act} {Q : Exit → Act → World → Prop} (hgd : o.guard = none) (s x : Operand) (t : TypeId)
    (ho : o.op = .call { callee := .builtin .append, args := #[s, x], argTypes := #[t, t] })
    (B : Nat) (e : TypeId) (i : TypeInfo) (z : Value) (k bytes : Nat) (ht : P.underlying t = some (.slice e)) (hi : P.info? e = some i) (hz : i.zero = some z)
    (hsize : i.size = k) (hby : i.bytes = bytes) (hzs : z.cells.size = k) (hk : 0 < k) (v : Value) (n : Nat) (xs : List Value) (hs : a.eval s = v) (hown : w.ownsRow B e k v n xs)
    (ad : Addr) (m c : Nat) (news : List Value) (hx : a.eval x = .slice (some ad) m c) (hl : news.length = m * k) (hnews : ∀ j u, news[j]? = some u → w.cell? (ad.add j) = some u) (h1 : ∀ u ∈ news, u.oneCell' = true)
    (h63 : n + m ≤ maxLen) (hbytes : (n + m) * bytes ≤ 140737488355328) (hbase : B ≤ w.heap.size)
    (h : ∀ A' c' w', w'.ownsRow B e k (.slice A' (n + m) c') (n + m) (xs ++ news) → w.grownBy w' v.ownBlock → (∀ q, (Value.slice A' (n + m) c').ownBlock = some q → v.ownBlock = some q ∨ w.heap.size ≤ q) → wpList P ops Q rest (a.put o.dst (.slice A' (n + m) c')) w') :
    wpList P ops Q (o :: rest) a w := by
  refine wpList_plain hgd fun K hK => ?_
  obtain ⟨A', c', w', hrun, h2, h3, h4⟩ := run_append_rowK (P := P) w B t o.type e i z k bytes ht hi hz hsize hby hzs hk v n xs hown ad m c news hl hnews h1 h63 hbytes hbase
  unfold Oper.wp execOp
  simp only [ho, resolve, invoke, builtin, Sem.run_bind, Sem.run_pure, Result.andThen_ok, List.map_toArray, List.map_cons, List.map_nil, hs, hx, hrun]
  exact hK _ _ (h A' c' w' h2 h3 h4)
end
end Go.Proofs.YtgmeakcfiaopcaaGreat

/- What a call may change: the blocks of one object. Nothing here speaks of one program. -/
namespace Go.Proofs.YtgmeakcfiaopcaaGreat
open Go.RowKit

/-- Of what was there nothing changed but blocks that meet S. -/
structure Chg (S : Nat → Prop) (w w' : World) : Prop where
  os : w'.os = w.os
  tape : w'.tape = w.tape
  output : w'.output = w.output
  size : w.heap.size ≤ w'.heap.size
  block : ∀ k, k < w.heap.size → ¬ S k → w'.heap[k]? = w.heap[k]?

section
variable {S S' : Nat → Prop} {w w' u : World} {B : Nat}
theorem Chg.refl (S : Nat → Prop) (w : World) : Chg S w w := ⟨rfl, rfl, rfl, Nat.le_refl _, fun _ _ _ => rfl⟩
theorem Chg.of_below (S : Nat → Prop) (h : Below w.heap.size w w') : Chg S w w' := ⟨h.os, h.tape, h.output, h.size, fun k hk _ => h.block k hk⟩
theorem Chg.of_grown {row : Option Nat} (h : w.grownBy w' row) (hr : ∀ k, row = some k → S k) : Chg S w w' := ⟨h.os, h.tape, h.output, h.size, fun k hk hn => h.block k hk (fun e => hn (hr k e.symm))⟩
theorem Chg.set (w : World) (g i : Nat) (u : Value) (hS : S g) : Chg S w (w.setCell ⟨g, i, none⟩ u) := Chg.of_grown (grown_set w g i u) (fun k e => by cases e; exact hS)
theorem Chg.trans (h : Chg S w u) (h' : Chg S' u w') (hs : ∀ k, k < w.heap.size → S' k → S k) : Chg S w w' :=
  ⟨h'.os.trans h.os, h'.tape.trans h.tape, h'.output.trans h.output, Nat.le_trans h.size h'.size, fun k hk hn => (h'.block k (Nat.lt_of_lt_of_le hk h.size) (fun e => hn (hs k hk e))).trans (h.block k hk hn)⟩
theorem Chg.mono (h : Chg S w w') (hs : ∀ k, k < w.heap.size → S k → S' k) : Chg S' w w' := ⟨h.os, h.tape, h.output, h.size, fun k hk hn => h.block k hk (fun e => hn (hs k hk e))⟩
theorem Chg.drewN (h : Chg S w w') (n : Nat) : Chg S w (w'.drewN n) := ⟨h.os, h.tape, h.output, h.size, h.block⟩
theorem Below.chg {a : World} (h : Below B a w) (hc : Chg S w w') (hB : B ≤ w.heap.size) (hS : ∀ k, S k → B ≤ k) : Below B a w' :=
  h.trans ⟨hc.os, hc.tape, hc.output, hc.size, fun k hk => hc.block k (by omega) (fun e => by have := hS k e; omega)⟩
theorem Chg.cell (h : Chg S w w') {b o : Nat} (hb : b < w.heap.size) (hn : ¬ S b) : w'.cell? ⟨b, o, none⟩ = w.cell? ⟨b, o, none⟩ := World.cell?_of_block (w := w) (h.block b hb hn)
theorem Chg.frozen (h : Chg S w w') {b o : Nat} (hb : b < w.heap.size) (hn : ¬ S b) : w'.frozen? ⟨b, o, none⟩ = w.frozen? ⟨b, o, none⟩ := World.frozen?_of_block (w := w) (h.block b hb hn)
theorem Holds.chg {g : Nat} {t : TypeId} {cs : Array Value} (h : Holds w g t cs) (hc : Chg S w w') (hn : ¬ S g) : Holds w' g t cs := (hc.block g h.lt hn).trans h
theorem own_chg {e : TypeId} {k n : Nat} {v : Value} {xs : List Value} (h : w.ownsRow B e k v n xs) (hc : Chg S w w') (hn : ∀ q, v.ownBlock = some q → ¬ S q) : w'.ownsRow B e k v n xs := by
  refine ⟨h.1, ?_⟩
  rcases h.2 with h2 | ⟨g, cap, cur, rfl, hB, hg, r⟩
  · exact .inl h2
  · exact .inr ⟨g, cap, cur, rfl, hB, (hc.block g (Array.getElem?_eq_some_iff.1 hg).1 (hn g rfl)).trans hg, r⟩
/-- Two rows of elements of other types lie in two blocks. -/
theorem own_own {B B' : Nat} {e e' : TypeId} {k k' n n' : Nat} {v v' : Value} {xs xs' : List Value} (h : w.ownsRow B e k v n xs) (h' : w.ownsRow B' e' k' v' n' xs') (hne : e ≠ e') {q : Nat} (hq : v.ownBlock = some q) : v'.ownBlock ≠ some q := by
  rcases own_open h with ⟨rfl, _⟩ | ⟨g, cap, cur, rfl, _, hH, _⟩
  · simp [Value.ownBlock] at hq
  · simp [Value.ownBlock] at hq
    subst hq
    exact hH.own_apart h' (Ne.symm hne)
theorem own_up {B B' : Nat} {e : TypeId} {k n : Nat} {v : Value} {xs : List Value} (h : w.ownsRow B e k v n xs) (hB : ∀ q, v.ownBlock = some q → B' ≤ q) : w.ownsRow B' e k v n xs := by
  refine ⟨h.1, ?_⟩
  rcases h.2 with h2 | ⟨g, cap, cur, rfl, _, hg, r⟩
  · exact .inl h2
  · exact .inr ⟨g, cap, cur, rfl, hB g rfl, hg, r⟩
end
end Go.Proofs.YtgmeakcfiaopcaaGreat

/- A parameter that is a struct by value lies in a block of the call's own (Op.box): it is known whole from the call's begin to its end. Nothing here speaks of one program. -/
namespace Go.Proofs.YtgmeakcfiaopcaaGreat
open Go.RowKit

/-- What was boxed as the call began (at block w0.heap.size) lies there still, and nothing older was changed. -/
structure Box (w0 : World) (t : TypeId) (cs : Array Value) (w : World) : Prop where
  holds : Holds w w0.heap.size t cs
  below : Below w0.heap.size w0 w
section
variable {w0 w w' : World} {t : TypeId} {cs : Array Value}
theorem Box.start (w0 : World) (t : TypeId) (cs : Array Value) : Box w0 t cs (w0.alloc (.cells cs t)) := ⟨Holds.new _ _ _, below_alloc _ _⟩
theorem Box.lt (h : Box w0 t cs w) : w0.heap.size < w.heap.size := h.holds.lt
theorem Box.next (h : Box w0 t cs w) (hb : Below w.heap.size w w') : Box w0 t cs w' := ⟨h.holds.below hb h.lt, h.below.trans (hb.mono (Nat.le_of_lt h.lt))⟩
theorem Box.drew (h : Box w0 t cs w) : Box w0 t cs w.drew := h.next (Below.refl _ _).drew
theorem Box.drewN (h : Box w0 t cs w) (n : Nat) : Box w0 t cs (w.drewN n) := h.next (below_drewN (Below.refl _ _) n)
theorem Box.alloc (h : Box w0 t cs w) (o : Obj) : Box w0 t cs (w.alloc o) := h.next (below_alloc _ _)
theorem Box.cells3 {a b c : Value} (h : Box w0 t #[a, b, c] w) : w.cell? ⟨w0.heap.size, 0, none⟩ = some a ∧ w.cell? ⟨w0.heap.size, 1, none⟩ = some b ∧ w.cell? ⟨w0.heap.size, 2, none⟩ = some c ∧ Box w0 t #[a, b, c] w :=
  ⟨h.holds.cell 0, h.holds.cell 1, h.holds.cell 2, h⟩
theorem Box.two {w1 : World} {t' : TypeId} {a b c d e f : Value} (h : Box w0 t #[a, b, c] w ∧ Box w1 t' #[d, e, f] w) :
    w.cell? ⟨w0.heap.size, 0, none⟩ = some a ∧ w.cell? ⟨w0.heap.size, 1, none⟩ = some b ∧ w.cell? ⟨w0.heap.size, 2, none⟩ = some c ∧ w.cell? ⟨w1.heap.size, 0, none⟩ = some d ∧ w.cell? ⟨w1.heap.size, 1, none⟩ = some e ∧ w.cell? ⟨w1.heap.size, 2, none⟩ = some f ∧ Box w0 t #[a, b, c] w ∧ Box w1 t' #[d, e, f] w :=
  ⟨h.1.holds.cell 0, h.1.holds.cell 1, h.1.holds.cell 2, h.2.holds.cell 0, h.2.holds.cell 1, h.2.holds.cell 2, h.1, h.2⟩
end
end Go.Proofs.YtgmeakcfiaopcaaGreat

/- A region that draws its order, where some operations load cells, calls follow, and the last operations ('late': each waits for all that were ahead) store into those very cells: the loads may be taken first, since nothing late comes up before them. Nothing here speaks of one program. -/
namespace Go.Proofs.YtgmeakcfiaopcaaGreat

section
variable {P : Program} {ops : Array Oper} {Q : Exit → Act → World → Prop} {md : Region.Mode} {S : World → Prop} {late : Nat → Bool}

/-- Whatever order is picked from here on; behind each operation that isn't late S holds. -/
def Turns (P : Program) (md : Region.Mode) (ops : Array Oper) (Q : Exit → Act → World → Prop) (S : World → Prop) (late : Nat → Bool) : Nat → Array Bool → Act → World → Prop
  | 0, listed, a, w => Region.ready md ops listed = [] ∧ Q .normal a w
  | n + 1, listed, a, w =>
    (Region.ready md ops listed = [] → Q .normal a w) ∧
    ∀ i ∈ Region.ready md ops listed, wpOp P ops Q i (fun a' w' => (late i = false → S w') ∧ Turns P md ops Q S late n (listed.setIfInBounds i true) a' w') a w

theorem Turns.any : ∀ {n : Nat} {listed : Array Bool} {a : Act} {w : World}, Turns P md ops Q S late n listed a w → wpAny P md ops Q n listed a w
  | 0, _, _, _, h => h
  | _ + 1, _, _, _, h => ⟨h.1, fun i hi => wpOp_mono (fun _ _ h' => Turns.any h'.2) (h.2 i hi)⟩

/-- Where all that is left is late, nothing is asked of S. -/
theorem Turns.rest : ∀ {n : Nat} {listed : Array Bool} {a : Act} {w : World}, (∀ i, listed.getD i true = false → late i = true) → wpAny P md ops Q n listed a w → Turns P md ops Q S late n listed a w
  | 0, _, _, _, _, h => h
  | _ + 1, listed, _, _, hl, h => ⟨h.1, fun i hi => wpOp_mono (fun _ _ h' => ⟨fun hf => absurd (hl i (mem_ready.1 hi).1) (by rw [hf]; decide), Turns.rest (fun j hj => by
      by_cases hij : i = j
      · subst hij
        exact hl i (mem_ready.1 hi).1
      · rw [getD_set_ne true hij] at hj
        exact hl j hj) h'⟩) (h.2 i hi)⟩

def lateLeft (late : Nat → Bool) (listed : Array Bool) : Bool := (List.range listed.size).all fun i => listed.getD i true || late i
theorem late_done {listed : Array Bool} (h : lateLeft late listed = true) (i : Nat) (hi : listed.getD i true = false) : late i = true := by
  rcases Nat.lt_or_ge i listed.size with hlt | hge
  · have h0 := List.all_eq_true.1 h i (List.mem_range.2 hlt)
    rw [hi] at h0
    simpa using h0
  · simp [Array.getElem?_eq_none hge] at hi
/-- Does j wait for i, itself or through some that have not come up? -/
def linked (md : Region.Mode) (ops : Array Oper) (listed : Array Bool) (i : Nat) : Nat → Nat → Bool
  | 0, j => Region.waitsFor md ops j i
  | d + 1, j => Region.waitsFor md ops j i || (List.range ops.size).any fun k => Region.waitsFor md ops j k && !listed.getD k false && linked md ops listed i d k
/-- Does each late operation wait for this one? -/
def lateWaits (md : Region.Mode) (ops : Array Oper) (late : Nat → Bool) (i : Nat) (listed : Array Bool) : Bool := (List.range ops.size).all fun j => !late j || linked md ops listed i 3 j
theorem waits_not {i j : Nat} {listed : Array Bool} (h : Region.waitsFor md ops j i = true) (hi : listed.getD i false = false) : j ∉ Region.ready md ops listed := fun hj => by
  obtain ⟨_, oj, hoj, hall⟩ := mem_ready.1 hj
  obtain ⟨o', ho', e, he, hb, hon⟩ := Region.waitsFor_spec h
  obtain rfl : o' = oj := Option.some.inj (ho'.symm.trans hoj)
  have h0 := hall e he hb
  rw [hon, hi] at h0
  cases h0
theorem linked_not {i : Nat} {listed : Array Bool} (hi : listed.getD i false = false) : ∀ {d j : Nat}, linked md ops listed i d j = true → j ∉ Region.ready md ops listed
  | 0, _, h => waits_not h hi
  | d + 1, j, h => by
    simp only [linked, Bool.or_eq_true, List.any_eq_true, Bool.and_eq_true, Bool.not_eq_true'] at h
    rcases h with h | ⟨k, _, ⟨h1, h2⟩, _⟩
    · exact waits_not h hi
    · exact waits_not h1 h2
theorem linked_set {i j0 : Nat} {listed : Array Bool} (hi : listed.getD i false = false) (hj : j0 ∈ Region.ready md ops listed) : ∀ {d j : Nat}, linked md ops listed i d j = true → linked md ops (listed.setIfInBounds j0 true) i d j = true
  | 0, _, h => h
  | d + 1, j, h => by
    simp only [linked, Bool.or_eq_true, List.any_eq_true, Bool.and_eq_true, Bool.not_eq_true'] at h ⊢
    refine h.imp id fun ⟨k, hk, ⟨h1, h2⟩, h3⟩ => ⟨k, hk, ⟨h1, ?_⟩, linked_set hi hj h3⟩
    have hjk : j0 ≠ k := fun e => linked_not hi h3 (by rw [← e]; exact hj)
    rw [getD_set_ne false hjk]
    exact h2
theorem late_not {i j : Nat} {listed : Array Bool} (hw : lateWaits md ops late i listed = true) (hi : listed.getD i false = false) (hj : j ∈ Region.ready md ops listed) : late j = false := by
  rcases hl : late j with _ | _
  · rfl
  · obtain ⟨_, oj, hoj, _⟩ := mem_ready.1 hj
    have h0 := List.all_eq_true.1 hw j (List.mem_range.2 (Array.getElem?_eq_some_iff.1 hoj).1)
    rw [hl] at h0
    exact absurd hj (linked_not hi (by simpa using h0))
theorem late_set {i j : Nat} {listed : Array Bool} (hw : lateWaits md ops late i listed = true) (hi : listed.getD i false = false) (hj : j ∈ Region.ready md ops listed) : lateWaits md ops late i (listed.setIfInBounds j true) = true := by
  refine List.all_eq_true.2 fun l hl => ?_
  have h0 := List.all_eq_true.1 hw l hl
  simp only [Bool.or_eq_true] at h0 ⊢
  exact h0.imp id (linked_set hi hj)

theorem Turns.first {i : Nat} {oi : Oper} {v : Value} (hi : ops[i]? = some oi) (hs : Region.noSelect ops = true) (hQ : ∀ c a w, Q (.panic c) (a.put oi.dst v) w → Q (.panic c) a w) :
    ∀ (n : Nat) (listed : Array Bool) (a : Act) (w : World), (∀ j oj, ops[j]? = some oj → j ≠ i → listed.getD j true = false → (∀ e ∈ oj.after, Region.binds md e = true → e.on ≠ i) → oi.apart ops oj = true) →
      lateWaits md ops late i listed = true → i ∈ Region.ready md ops listed → YieldsIf P ops S oi v a → S w → Turns P md ops Q S late n (listed.setIfInBounds i true) (a.put oi.dst v) w → Turns P md ops Q S late (n + 1) listed a w := by
  have hsel := Region.noSelect_spec hs
  have now : ∀ {n : Nat} {listed : Array Bool} {a : Act} {w : World}, YieldsIf P ops S oi v a → S w → Turns P md ops Q S late n (listed.setIfInBounds i true) (a.put oi.dst v) w →
      wpOp P ops Q i (fun a' w' => (late i = false → S w') ∧ Turns P md ops Q S late n (listed.setIfInBounds i true) a' w') a w := fun hy hS H => hy.wpOp hi hS ⟨fun _ => hS, H⟩
  intro n
  induction n with
  | zero =>
    intro listed a w _ _ hr hy hS H
    refine ⟨fun h => (by rw [h] at hr; cases hr), fun j hj => ?_⟩
    by_cases hne : j = i
    · subst hne
      exact now hy hS H
    · have h0 := ready_mono hj hne
      rw [H.1] at h0
      cases h0
  | succ n ih =>
    intro listed a w hfree hw hr hy hS H
    refine ⟨fun h => (by rw [h] at hr; cases hr), fun j hj => ?_⟩
    by_cases hne : j = i
    · subst hne
      exact now hy hS H
    obtain ⟨hun, oj, hoj, hall⟩ := mem_ready.1 hj
    have hni : listed.getD i false = false := getD_both (mem_ready.1 hr).1
    have hno : ∀ e ∈ oj.after, Region.binds md e = true → e.on ≠ i := fun e he hb heq => by
      have h0 := hall e he hb
      rw [heq, hni] at h0
      cases h0
    have h2 := wpOp_putIf hoj (hfree j oj hoj hne hun hno) (fun cs b => hsel i oi cs b hi) (fun cs b => hsel j oj cs b hoj) hQ hy (H.2 j (ready_mono hj hne))
    refine wpOp_mono (fun a' w' h3 => ⟨h3.2.1, ih _ a' w' (fun k ok hk hki hk' hkn => hfree k ok hk hki ?_ hkn) (late_set hw hni hj) (ready_mono hr (Ne.symm hne)) h3.1 (h3.2.1 (late_not hw hni hj)) ?_⟩) h2
    · by_cases hjk : j = k
      · rw [← hjk]
        exact hun
      · rwa [getD_set_ne true hjk] at hk'
    · rw [Array.setIfInBounds_comm _ _ hne]
      exact h3.2.2

/-- Number i is taken first: in every world that meets S it yields v. -/
theorem Turns.take {n : Nat} {listed : Array Bool} {a : Act} {w : World} (hS : S w) (i : Nat) (v : Value) {oi : Oper} (hi : ops[i]? = some oi) (hs : Region.noSelect ops = true) (hf : Region.free md ops listed i = true)
    (hr : (Region.ready md ops listed).contains i = true) (hw : lateWaits md ops late i listed = true) (hQ : ∀ c a w, Q (.panic c) (a.put oi.dst v) w → Q (.panic c) a w) (hwant : Region.wanted oi (yielded ops a.tmps) = true)
    (hy : ∀ w, S w → (execOp a.eval oi).run P w = .ok (.value v) w) (h : Turns P md ops Q S late n (listed.setIfInBounds i true) (a.put oi.dst v) w) : Turns P md ops Q S late (n + 1) listed a w :=
  Turns.first hi hs hQ n listed a w (Region.free_spec hi hf) hw (by simpa using hr) (.inl ⟨hwant, hy⟩) hS h

/-- Number i, which its guard shuts out, is passed over first. -/
theorem Turns.skip {n : Nat} {listed : Array Bool} {a : Act} {w : World} (hS : S w) (i : Nat) {oi : Oper} (hi : ops[i]? = some oi) (hs : Region.noSelect ops = true) (hf : Region.free md ops listed i = true)
    (hr : (Region.ready md ops listed).contains i = true) (hw : lateWaits md ops late i listed = true) (hQ : ∀ c a w, Q (.panic c) (a.put oi.dst undef) w → Q (.panic c) a w) (hwant : Region.wanted oi (yielded ops a.tmps) = false)
    (h : Turns P md ops Q S late n (listed.setIfInBounds i true) (a.put oi.dst undef) w) : Turns P md ops Q S late (n + 1) listed a w :=
  Turns.first hi hs hQ n listed a w (Region.free_spec hi hf) hw (by simpa using hr) (.inr ⟨hwant, rfl⟩) hS h

/-- Number i alone may come up: it is carried out, and S is shown behind it. -/
theorem Turns.next {n : Nat} {listed : Array Bool} {a : Act} {w : World} (i : Nat) {oi : Oper} (hi : ops[i]? = some oi) (hr : Region.ready md ops listed = [i]) (hwant : Region.wanted oi (yielded ops a.tmps) = true)
    (h : ∀ K : Act → World → Prop, Shut (∀ a' w', S w' → Turns P md ops Q S late n (listed.setIfInBounds i true) a' w' → K a' w') → oi.wp P a w K Q) : Turns P md ops Q S late (n + 1) listed a w :=
  ⟨fun h0 => (by rw [hr] at h0; cases h0), fun j hj => by
    rw [hr] at hj
    obtain rfl : j = i := by simpa using hj
    exact wpOp_step hi fun K hK => by
      rw [if_pos hwant]
      exact h K fun a' w' hS hT => hK _ _ ⟨fun _ => hS, hT⟩⟩

/-- Two may come up: either is carried out, and S is shown behind it. -/
theorem Turns.either {n : Nat} {listed : Array Bool} {a : Act} {w : World} (i j : Nat) {oi oj : Oper} (hi : ops[i]? = some oi) (hj : ops[j]? = some oj) (hr : Region.ready md ops listed = [i, j])
    (hwi : Region.wanted oi (yielded ops a.tmps) = true) (hwj : Region.wanted oj (yielded ops a.tmps) = true)
    (h1 : ∀ K : Act → World → Prop, Shut (∀ a' w', S w' → Turns P md ops Q S late n (listed.setIfInBounds i true) a' w' → K a' w') → oi.wp P a w K Q)
    (h2 : ∀ K : Act → World → Prop, Shut (∀ a' w', S w' → Turns P md ops Q S late n (listed.setIfInBounds j true) a' w' → K a' w') → oj.wp P a w K Q) : Turns P md ops Q S late (n + 1) listed a w :=
  ⟨fun h0 => (by rw [hr] at h0; cases h0), fun k hk => by
    rw [hr] at hk
    have hk' : k = i ∨ k = j := by simpa using hk
    rcases hk' with rfl | rfl
    · exact wpOp_step hi fun K hK => by
        rw [if_pos hwi]
        exact h1 K fun a' w' hS hT => hK _ _ ⟨fun _ => hS, hT⟩
    · exact wpOp_step hj fun K hK => by
        rw [if_pos hwj]
        exact h2 K fun a' w' hS hT => hK _ _ ⟨fun _ => hS, hT⟩⟩

/-- Number i alone may come up, where all that is left is late. -/
theorem any_next {n : Nat} {listed : Array Bool} {a : Act} {w : World} (i : Nat) {oi : Oper} (hi : ops[i]? = some oi) (hr : Region.ready md ops listed = [i]) (hwant : Region.wanted oi (yielded ops a.tmps) = true)
    (h : ∀ K : Act → World → Prop, Shut (∀ a' w', wpAny P md ops Q n (listed.setIfInBounds i true) a' w' → K a' w') → oi.wp P a w K Q) : wpAny P md ops Q (n + 1) listed a w :=
  ⟨fun h0 => (by rw [hr] at h0; cases h0), fun j hj => by
    rw [hr] at hj
    obtain rfl : j = i := by simpa using hj
    exact wpOp_step hi fun K hK => by
      rw [if_pos hwant]
      exact h K hK⟩
/-- An operation that no world turns is taken first, where all that is left is late. -/
theorem any_take {n : Nat} {listed : Array Bool} {a : Act} {w : World} (i : Nat) (v : Value) {oi : Oper} (hi : ops[i]? = some oi) (hs : Region.noSelect ops = true) (hf : Region.free md ops listed i = true)
    (hr : (Region.ready md ops listed).contains i = true) (hQ : ∀ c a w, Q (.panic c) (a.put oi.dst v) w → Q (.panic c) a w) (hwant : Region.wanted oi (yielded ops a.tmps) = true)
    (hy : ∀ w, (execOp a.eval oi).run P w = .ok (.value v) w) (h : wpAny P md ops Q n (listed.setIfInBounds i true) (a.put oi.dst v) w) : wpAny P md ops Q (n + 1) listed a w :=
  wpAny_take hi hs hf hr hQ (.inl ⟨hwant, hy⟩) h

/-- What is left comes up in the text's order. -/
theorem any_tail {n : Nat} {listed : Array Bool} {a : Act} {w : World} (k : Nat) (hn : n = ops.size - k) (hB : Region.seqB md ops (ops.size - k) k listed = true) (h : wpList P ops Q (ops.toList.drop k) a w) : wpAny P md ops Q n listed a w := by
  have hl : (ops.toList.drop k).length = ops.size - k := by simp
  rw [hn, ← hl]
  exact wpAny_of_seq _ k listed a w (fun j => by simp) (by rw [hl]; exact hB) h

/-- The beginning, at a region that draws its order. -/
theorem region_turns {id : Nat} {a : Act} {w : World} (S : World → Prop) (late : Nat → Bool) (hm : P.follows .mixedOrders = true) (hS : S w.drew)
    (h : S w.drew → Turns P .any ops Q S late ops.size (Array.replicate ops.size false) a w.drew) : (Code.region id ops true).wp P Q a w :=
  wp_region_any hm (h hS).any
end
end Go.Proofs.YtgmeakcfiaopcaaGreat

/- A law's parameters that are structs of plain fields (integers, bools, strings, slices of integers; structs of such), by value, and slices of such. Nothing here speaks of one program. -/
namespace Go.Proofs.YtgmeakcfiaopcaaGreat
open Go.ChangeShapes Go.WideShapes Go.RowKit Go.Deep Go.ChangeMaps Go.WideElems

/-- What a plain cell may hold. -/
inductive FK where
  | int (k : IntKind)
  | bool
  | str
  | ints (k : IntKind)

def FK.ok (W : World) : FK → Value → Prop
  | .int k, v => ∃ z, v = .int k z ∧ (Lit.int k z).wf = true
  | .bool, v => ∃ b, v = .bool b
  | .str, v => ∃ s : ByteArray, v = .string s ∧ s.size ≤ maxLen
  | .ints k, v => ∃ A n c zs, v = .slice A n c ∧ IntRow W k A n c zs

/-- Each cell holds what its kind says. -/
def Fit (W : World) : List FK → List Value → Prop
  | [], [] => True
  | k :: ks, v :: vs => k.ok W v ∧ Fit W ks vs
  | _, _ => False
theorem Fit.length {W : World} : ∀ {ks : List FK} {vs : List Value}, Fit W ks vs → vs.length = ks.length
  | [], [], _ => rfl
  | _ :: ks, _ :: vs, h => by
    have := Fit.length (ks := ks) (vs := vs) h.2
    simpa using this
theorem Fit.append {W : World} : ∀ {ks ls : List FK} {vs us : List Value}, Fit W ks vs → Fit W ls us → Fit W (ks ++ ls) (vs ++ us)
  | [], _, [], _, _, h => h
  | _ :: ks, _, _ :: vs, _, h, h' => ⟨h.1, Fit.append (ks := ks) (vs := vs) h.2 h'⟩
theorem FK.ok.below {W W' : World} {k : FK} {v : Value} (h : k.ok W v) (hb : Below W.heap.size W W') : k.ok W' v := by
  cases k with
  | int k => exact h
  | bool => exact h
  | str => exact h
  | ints k =>
    obtain ⟨A, n, c, zs, e, hr⟩ := h
    exact ⟨A, n, c, zs, e, hr.below hb⟩
theorem Fit.below {W W' : World} (hb : Below W.heap.size W W') : ∀ {ks : List FK} {vs : List Value}, Fit W ks vs → Fit W' ks vs
  | [], [], _ => trivial
  | _ :: ks, _ :: vs, h => ⟨h.1.below hb, Fit.below hb (ks := ks) (vs := vs) h.2⟩

/-- The kinds of a struct's fields, one behind the other; none: they don't lie so, or one isn't plain. -/
def flatFs (P : Program) (g : TypeId → Option (List FK)) : List Field → Nat → Option (List FK)
  | [], _ => some []
  | f :: r, off =>
    if f.offset = off then
      match g f.type with
      | some ks => if P.cellsOf f.type = ks.length then (flatFs P g r (off + ks.length)).map (ks ++ ·) else none
      | none => none
    else none
/-- The kinds of a type's cells. -/
def flat (P : Program) : Nat → TypeId → Option (List FK)
  | 0, _ => none
  | d + 1, t =>
    match P.underlying t with
    | some (.int k) => some [.int k]
    | some .bool => some [.bool]
    | some .string => some [.str]
    | some (.slice e) => match P.underlying e with
      | some (.int k) => if P.cellsOf e = 1 then some [.ints k] else none
      | _ => none
    | some (.struct fs) => match flatFs P (flat P d) fs.toList 0 with
      | some ks => if P.cellsOf t = ks.length then some ks else none
      | none => none
    | _ => none

section
variable {H : Type} {enc : TypeId × Value → H} {P : Program} {W : World}
theorem flatFs_fit {g : TypeId → Option (List FK)} {cs : List Value} {xs : List (DataW H × List MemPlace)} {n : Nat}
    (hg : ∀ t ks vs x, g t = some ks → DataW.trod enc P W 0 (fun _ => true) true n t vs = some x → Fit W ks vs) :
    ∀ (fs : List Field) (off i : Nat) (ks : List FK), flatFs P g fs off = some ks → xs.length = i + fs.length → off + ks.length = cs.length →
      (∀ (j : Nat) (f : Field), fs[j]? = some f → DataW.trod enc P W 0 (fun _ => true) true n f.type ((cs.drop f.offset).take (P.cellsOf f.type)) = xs[i + j]?) → Fit W ks (cs.drop off)
  | [], off, i, ks, h, _, hl, _ => by
    simp only [flatFs, Option.some.injEq] at h
    subst h
    rw [List.drop_eq_nil_of_le (by simp at hl; omega)]
    trivial
  | f :: r, off, i, ks, h, hx, hl, hf => by
    simp only [flatFs] at h
    split at h
    · rename_i ho
      split at h
      · rename_i k1 hk1
        split at h
        · rename_i hc
          rw [Option.map_eq_some_iff] at h
          obtain ⟨k2, hk2, rfl⟩ := h
          rw [List.length_append] at hl
          rw [List.length_cons] at hx
          have h0 := hf 0 f rfl
          rw [ho, hc, Nat.add_zero, List.getElem?_eq_getElem (by omega)] at h0
          have h1 := hg _ _ _ _ hk1 h0
          have h2 := flatFs_fit (cs := cs) (xs := xs) hg r (off + k1.length) (i + 1) k2 hk2 (by omega) (by omega) (fun j f' hj => by
            have := hf (j + 1) f' (by simpa using hj)
            rw [this]
            congr 1
            omega)
          have h3 := Fit.append h1 h2
          rwa [← List.drop_drop, List.take_append_drop] at h3
        · cases h
      · cases h
    · cases h
theorem flat_fit : ∀ (d : Nat) (t : TypeId) (ks : List FK) (cs : List Value) (n : Nat) (x : DataW H × List MemPlace), flat P d t = some ks → DataW.trod enc P W 0 (fun _ => true) true n t cs = some x → Fit W ks cs
  | 0, _, _, _, _, _, h, _ => by cases h
  | d + 1, t, ks, cs, n, x, h, hx => by
    unfold flat at h
    split at h
    · rename_i k hu
      simp only [Option.some.injEq] at h
      subst h
      obtain ⟨z, rfl, _, hw⟩ := DataW.trod_int hu hx
      exact ⟨⟨z, rfl, hw⟩, trivial⟩
    · rename_i hu
      simp only [Option.some.injEq] at h
      subst h
      obtain ⟨b, rfl, _⟩ := DataW.trod_bool hu hx
      exact ⟨⟨b, rfl⟩, trivial⟩
    · rename_i hu
      simp only [Option.some.injEq] at h
      subst h
      obtain ⟨s, rfl, _, hs⟩ := DataW.trod_string hu hx
      exact ⟨⟨s, rfl, hs⟩, trivial⟩
    · rename_i e hu
      split at h
      · rename_i k he
        split at h
        · rename_i hc
          simp only [Option.some.injEq] at h
          subst h
          rcases open_ints hu he hc hx with ⟨rfl, _⟩ | ⟨a, len, cap, zs, rfl, _, hl, hm, hz, _, hcell, hwz⟩
          · exact ⟨⟨none, 0, 0, [], rfl, rfl, Nat.le_refl _, by simp [maxLen], fun _ => rfl, fun h => absurd h (Nat.lt_irrefl _), by simp⟩, trivial⟩
          · simp only [if_true] at hz
            refine ⟨⟨some a, len, cap, zs.take len, rfl, by rw [List.length_take]; omega, hl, hm, (fun h => by cases h), fun h0 => ?_, fun n hn => hwz n (List.mem_of_mem_take hn)⟩, trivial⟩
            obtain ⟨b, off, rfl, hh⟩ := ints_at hcell (by omega)
            refine ⟨b, off, rfl, block_lt (hh 0 (by omega)), fun j hj => ?_⟩
            rw [hh j (by omega)]
            simp [List.getD, hj]
        · cases h
      · cases h
    · rename_i fs hu
      split at h
      · rename_i ks' hk
        split at h
        · rename_i hc
          simp only [Option.some.injEq] at h
          subst h
          obtain ⟨xs, n', rfl, _, hlen, hxl, hf⟩ := DataW.trod_struct hu hx
          have := flatFs_fit (cs := cs) (xs := xs) (n := n') (fun t ks vs x h1 h2 => flat_fit d t ks vs n' x h1 h2) fs.toList 0 0 _ hk (by simpa using hxl) (by omega) (fun j f hj => by
            rw [Nat.zero_add]
            exact hf j f (by simpa using hj))
          simpa using this
        · cases h
      · cases h
    · cases h

/-- A parameter that is a struct of plain fields. -/
theorem flat_arg {t : TypeId} {fs : Array Field} {ks : List FK} {v : Value} {e : DataW H} {p : List MemPlace} (d : Nat) (hs : P.underlying t = some (.struct fs)) (hk : flat P d t = some ks)
    (hv : Value.okWide P W .any 0 t v) (h : DataW.Trod enc P W 0 (fun _ => true) true t v e p) : ∃ vs : List Value, v = .agg vs.toArray ∧ Fit W ks vs := by
  obtain ⟨cs, rfl, _⟩ := okWide_struct hs hv
  obtain ⟨fuel, hf⟩ := h
  refine ⟨cs.toList, by simp, ?_⟩
  have := flat_fit d t ks _ _ _ hk hf
  simpa [Value.cells] using this

/-- A slice of elements of plain cells that came in. -/
structure FlatRow (W : World) (ks : List FK) (A : Option Addr) (n c : Nat) (f : Nat → List Value) : Prop where
  cap_le : n ≤ c
  max : c ≤ maxLen
  nil : A = none → c = 0
  fit : ∀ i, i < n → Fit W ks (f i)
  cell : 0 < n → ∃ b off, A = some ⟨b, off, none⟩ ∧ b < W.heap.size ∧ ∀ i, i < n → ∀ j, j < ks.length → W.cell? ⟨b, off + (i * ks.length + j), none⟩ = (f i)[j]?
theorem FlatRow.below {W' : World} {ks : List FK} {A : Option Addr} {n c : Nat} {f : Nat → List Value} (h : FlatRow W ks A n c f) (hb : Below W.heap.size W W') : FlatRow W' ks A n c f :=
  ⟨h.cap_le, h.max, h.nil, fun i hi => (h.fit i hi).below hb, fun hn => by
    obtain ⟨b, off, e, hlt, hc⟩ := h.cell hn
    exact ⟨b, off, e, Nat.lt_of_lt_of_le hlt hb.size, fun i hi j hj => (hb.cell (p := ⟨b, off + (i * ks.length + j), none⟩) hlt).trans (hc i hi j hj)⟩⟩
theorem FlatRow.at {ks : List FK} {A : Option Addr} {n c : Nat} {f : Nat → List Value} (h : FlatRow W ks A n c f) (m : Nat) (hm : ks.length = m) {i : Nat} (hi : i < n) :
    ∃ b off, A = some ⟨b, off, none⟩ ∧ b < W.heap.size ∧ ∀ j v, (f i)[j]? = some v → W.cell? ⟨b, off + i * m + j, none⟩ = some v := by
  obtain ⟨b, off, e, hb, hc⟩ := h.cell (by omega)
  refine ⟨b, off, e, hb, fun j v hv => ?_⟩
  have hj : j < ks.length := by
    rw [← (h.fit i hi).length]
    exact (List.getElem?_eq_some_iff.1 hv).1
  have := hc i hi j hj
  rw [hm] at this
  rw [Nat.add_assoc, this, hv]
theorem flats_arg {t e : TypeId} {ks : List FK} {v : Value} {x : DataW H} {p : List MemPlace} (d : Nat) (ht : P.underlying t = some (.slice e)) (hk : flat P d e = some ks) (hc : P.cellsOf e = ks.length) (h0 : 0 < ks.length)
    (hv : Value.okWide P W .any 0 t v) (h : DataW.Trod enc P W 0 (fun _ => true) true t v x p) : ∃ A n c f, v = .slice A n c ∧ FlatRow W ks A n c f := by
  obtain ⟨A, len, cap, rfl⟩ := okWide_slice ht hv
  obtain ⟨fuel, hf⟩ := h
  rcases open_slice ht hf with ⟨hcs, _⟩ | ⟨a, len', cap', m, n, D, Pl, hcs, _, hl, hm, hmm, _, hall⟩
  · simp [Value.cells] at hcs
    obtain ⟨rfl, rfl, rfl⟩ := hcs
    exact ⟨none, 0, 0, fun _ => [], rfl, Nat.le_refl _, by simp [maxLen], fun _ => rfl, fun i hi => absurd hi (Nat.not_lt_zero _), fun h => absurd h (Nat.lt_irrefl _)⟩
  · simp [Value.cells] at hcs
    obtain ⟨rfl, rfl, rfl⟩ := hcs
    simp only [if_true] at hmm
    subst hmm
    have hex : ∀ i, ∃ cs' : List Value, i < m → W.cells? 0 (a.add (i * P.cellsOf e)) (P.cellsOf e) = some cs' ∧ DataW.trod enc P W 0 (fun _ => true) true n e cs' = some (D i, Pl i) := by
      intro i
      by_cases hi : i < m
      · obtain ⟨cs', h1, h2⟩ := hall i hi
        exact ⟨cs', fun _ => ⟨h1, h2⟩⟩
      · exact ⟨[], fun h => absurd h hi⟩
    obtain ⟨f, hf'⟩ := Classical.axiomOfChoice hex
    refine ⟨some a, len, m, f, rfl, hl, hm, (fun h => by cases h), fun i hi => flat_fit d e ks _ n _ hk (hf' i (by omega)).2, fun hn => ?_⟩
    have hat : ∀ i, i < len → ∀ j, j < ks.length → W.cell? ((a.add (i * ks.length)).add j) = (f i)[j]? := fun i hi j hj => by
      have := (World.cells?_some (hf' i (by omega)).1).2.2 j (by rw [hc]; exact hj)
      rwa [hc] at this
    obtain ⟨b, off, spot⟩ := a
    have hf0 := (flat_fit d e ks _ n _ hk (hf' 0 (by omega)).2).length
    have hspot : spot = none := by
      have h00 := hat 0 hn 0 h0
      rw [List.getElem?_eq_getElem (by omega)] at h00
      simpa [Addr.add] using World.cell?_spot h00
    subst hspot
    have hpl : ∀ i j : Nat, (((⟨b, off, none⟩ : Addr).add i).add j) = ⟨b, off + (i + j), none⟩ := fun i j => by
      rw [Go.WideShapes.add_plain, Go.WideShapes.add_plain, Nat.add_assoc]
    refine ⟨b, off, rfl, ?_, fun i hi j hj => by rw [← hpl]; exact hat i hi j hj⟩
    have h00 := hat 0 hn 0 h0
    rw [List.getElem?_eq_getElem (by omega), hpl] at h00
    exact block_lt h00
end
end Go.Proofs.YtgmeakcfiaopcaaGreat

/- A law's parameter that is a struct of integers, by value. Nothing here speaks of one program. -/
namespace Go.Proofs.YtgmeakcfiaopcaaGreat
open Go.ChangeShapes Go.WideShapes Go.RowKit Go.Deep
section
variable {H : Type} {enc : TypeId × Value → H} {P : Program} {w : World} {base : Nat} {spare : Nat → Bool} {held : Bool}
/-- Each field is an integer of these kinds, in order. -/
def intFields (P : Program) (fs : Array Field) (ks : List IntKind) : Bool :=
  decide (fs.size = ks.length) && (List.range ks.length).all fun i => match fs[i]?, ks[i]? with
  | some f, some k => match P.underlying f.type with
    | some (.int k') => decide (k' = k)
    | _ => false
  | _, _ => false
theorem intFields_of {P : Program} {fs : Array Field} {ks : List IntKind} (h : intFields P fs ks = true) : fs.size = ks.length ∧ ∀ i, i < ks.length → ∃ f, fs[i]? = some f ∧ ∃ k, ks[i]? = some k ∧ P.underlying f.type = some (.int k) := by
  unfold intFields at h
  rw [Bool.and_eq_true, decide_eq_true_eq] at h
  refine ⟨h.1, fun i hi => ?_⟩
  have h1 := List.all_eq_true.1 h.2 i (List.mem_range.2 hi)
  split at h1
  · rename_i f k hf hk
    split at h1
    · rename_i k' hu
      obtain rfl : k' = k := of_decide_eq_true h1
      exact ⟨f, hf, k', hk, hu⟩
    · cases h1
  · cases h1
theorem ints_struct {r : Reach} {b0 : Nat} {t : TypeId} {fs : Array Field} {ks : List IntKind} {v : Value} {d : DataW H} {p : List MemPlace} (hs : P.underlying t = some (.struct fs)) (hone : oneCellFields P fs = true) (hC : P.cellsOf t = fs.size)
    (hI : intFields P fs ks = true)
    (hv : Value.okWide P w r b0 t v) (h : DataW.Trod enc P w base spare held t v d p) :
    ∃ ns : List Int, v = .agg ((ks.zip ns).map fun x => Value.int x.1 x.2).toArray ∧ ns.length = ks.length ∧ ∀ (i : Nat) k n, ks[i]? = some k → ns[i]? = some n → (Lit.int k n).wf = true := by
  obtain ⟨hk, hki⟩ := intFields_of hI
  obtain ⟨cs, rfl, hsz⟩ := okWide_struct hs hv
  obtain ⟨fuel, hf⟩ := h
  obtain ⟨xs, n, _, _, _, _, hg⟩ := DataW.trod_struct hs hf
  have hcell : ∀ i, i < ks.length → ∃ k z, ks[i]? = some k ∧ cs[i]? = some (.int k z) ∧ (Lit.int k z).wf = true := by
    intro i hi
    obtain ⟨f, hfi, k, hki', hu⟩ := hki i hi
    obtain ⟨ho, hk1⟩ := hone_of hone i f hfi
    have h1 := hg i f hfi
    rw [ho, hk1] at h1
    have hlt : i < cs.size := by rw [hsz, hC, hk]; exact hi
    have e : ((Value.agg cs).cells.toList.drop i).take 1 = [cs[i]] := by
      show (cs.toList.drop i).take 1 = _
      rw [List.drop_eq_getElem_cons (by simpa using hlt)]
      simp
    have h2 : DataW.trod enc P w base spare held n f.type [cs[i]] = xs[i]? := by rw [← e]; exact h1
    cases hx : xs[i]? with
    | none =>
      exfalso
      have hlen : xs.length = fs.size := by assumption
      have : i < xs.length := by rw [hlen, hk]; exact hi
      rw [List.getElem?_eq_getElem this] at hx
      cases hx
    | some y =>
      rw [hx] at h2
      obtain ⟨z, hz, _, hw⟩ := DataW.trod_int hu h2
      simp only [List.cons.injEq, and_true] at hz
      exact ⟨k, z, hki', by rw [Array.getElem?_eq_getElem hlt, hz], hw⟩
  refine ⟨cs.toList.map fun v => match v with | .int _ z => z | _ => 0, ?_, by simp [hsz, hC, hk], ?_⟩
  · congr 1
    apply Array.ext_getElem?
    intro i
    rcases Nat.lt_or_ge i ks.length with hi | hi
    · obtain ⟨k, z, h1, h2, _⟩ := hcell i hi
      rw [h2]
      simp [List.getElem?_map, h1, h2, List.zip, List.getElem?_zipWith]
    · rw [Array.getElem?_eq_none (by rw [hsz, hC, hk]; exact hi), List.getElem?_toArray, List.getElem?_eq_none (by simp; omega)]
  · intro i k z hki' hz
    have hi : i < ks.length := (List.getElem?_eq_some_iff.1 hki').1
    obtain ⟨k', z', h1, h2, h3⟩ := hcell i hi
    rw [h1] at hki'
    simp only [Option.some.injEq] at hki'
    subst hki'
    simp [h2] at hz
    subst hz
    exact h3
end
end Go.Proofs.YtgmeakcfiaopcaaGreat


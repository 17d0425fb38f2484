/- Texts of this seat, one behind the other. -/
import Derived.WalkKit
import Derived.ProofKit
import Derived.OpenShut
import Derived.Carry
import Derived.IntWalk
import Derived.PlainAid
import Derived.Deep.Draws
import Derived.Lib.Hide
import Derived.Test.YtmmdkafkfjfgnaaProg
import Derived.Outline
import Derived.Maps.AppendAt
import Derived.Deep.AppendLies
import Derived.Laws.OwnMore
import Derived.Laws.BytesArg
import Derived.OwnWalk
import Derived.Below
import Derived.Shelf.Abstract
import Derived.Deep.RegionHeld3
import Derived.Deep.DrawnRows
import Derived.Deep.RegionLaw
import Derived.Deep.QuietTactic
import Derived.BigQuiet
import Derived.OrdersHeld
import Derived.StillTail
import Derived.Deep.RegionHeld
import Derived.Laws.CopyOwn
import Derived.Lib.AppendZerosOnto
import Derived.ArgAppend
import Derived.Deep.CutBlock
import Derived.RegionTactic
import Derived.ChangeAlike
import Derived.BigRegion
/- What all proofs of this seat share: how a law's arguments are opened, and what is owed behind a call that wrote to new memory alone. Nothing here speaks of one program. -/
namespace Go.Proofs.Ytmmdkafkfjfgnaa
open Go.ChangeShapes Go.WideShapes Go.ChangeAt Go.RowKit Go.ChangeMaps Go.WideElems

def F8 (n : Int) : Prop := 0 ≤ n ∧ n ≤ 255
def F16 (n : Int) : Prop := 0 ≤ n ∧ n ≤ 65535
def F32 (n : Int) : Prop := 0 ≤ n ∧ n ≤ 4294967295
def Fits (n : Int) : Prop := -9223372036854775808 ≤ n ∧ n ≤ 9223372036854775807
theorem fits_wf {n : Int} (h : (Lit.int .i64 n).wf = true) : Fits n := bounds_i64 h
theorem f32_wf {n : Int} (h : (Lit.int .u32 n).wf = true) : F32 n := bounds_u32 h
theorem f16_wf {n : Int} (h : (Lit.int .u16 n).wf = true) : F16 n := bounds_u16 h
theorem f8_wf {n : Int} (h : (Lit.int .u8 n).wf = true) : F8 n := bounds_u8 h
theorem ret_int {k : IntKind} {a b : Int} (h : a = b) : Ending.returned (.int k a) = .returned (.int k b) := by rw [h]
theorem ret_bool {a b : Bool} (h : a = b) : Ending.returned (.bool a) = .returned (.bool b) := by rw [h]
theorem ret_ib {k : IntKind} {a b : Int} {o p : Bool} (h : a = b) (g : o = p) : Ending.returned (.tuple #[.int k a, .bool o]) = .returned (.tuple #[.int k b, .bool p]) := by rw [h, g]
theorem ret_ii {k l : IntKind} {a b c d : Int} (h : a = b) (g : c = d) : Ending.returned (.tuple #[.int k a, .int l c]) = .returned (.tuple #[.int k b, .int l d]) := by rw [h, g]
theorem wrap_u32 (n : Int) : IntKind.u32.wrap n = n % 4294967296 := by simp [IntKind.wrap, IntKind.bits, IntKind.signed]
theorem wrap_u16 (n : Int) : IntKind.u16.wrap n = n % 65536 := by simp [IntKind.wrap, IntKind.bits, IntKind.signed]
theorem wrap_u8 (n : Int) : IntKind.u8.wrap n = n % 256 := by simp [IntKind.wrap, IntKind.bits, IntKind.signed]

/-- A slice of one-cell integers that came in: its cells, as far as its length goes, at a plain address below the heap's end. -/
structure IntRow (W : World) (k : IntKind) (A : Option Addr) (len cap : Nat) (zs : List Int) : Prop where
  len_eq : zs.length = len
  cap_le : len ≤ cap
  max : cap ≤ maxLen
  nil : A = none → cap = 0
  cell : 0 < len → ∃ b off, A = some ⟨b, off, none⟩ ∧ b < W.heap.size ∧ ∀ j, j < len → W.cell? ⟨b, off + j, none⟩ = some (.int k (zs.getD j 0))
  wf : ∀ n ∈ zs, (Lit.int k n).wf = true

theorem block_lt {W : World} {p : Addr} {v : Value} (h : W.cell? p = some v) : p.block < W.heap.size := by
  rcases Nat.lt_or_ge p.block W.heap.size with hlt | hge
  · exact hlt
  · exfalso
    unfold World.cell? at h
    have e : W.heap[p.block]? = none := Array.getElem?_eq_none hge
    rw [e] at h
    simp at h

section
variable {H : Type} {enc : TypeId × Value → H} {P : Program}
theorem ints_arg {W : World} {t e : TypeId} {k : IntKind} {v : Value} {d : DataW H} {p : List MemPlace} (ht : P.underlying t = some (.slice e)) (he : P.underlying e = some (.int k)) (hc : P.cellsOf e = 1)
    (hv : Value.okWide P W .any 0 t v) (h : DataW.Trod enc P W 0 (fun _ => true) true t v d p) :
    ∃ A len cap zs, v = .slice A len cap ∧ IntRow W k A len cap zs := by
  obtain ⟨A, len, cap, rfl⟩ := okWide_slice ht hv
  obtain ⟨fuel, hf⟩ := h
  rcases open_ints ht he hc hf with ⟨hcs, _⟩ | ⟨a, len', cap', zs, hcs, _, hl, hm, hz, _, hcell, hwz⟩
  · simp [Value.cells] at hcs
    obtain ⟨rfl, rfl, rfl⟩ := hcs
    exact ⟨none, 0, 0, [], rfl, rfl, Nat.le_refl _, by simp [maxLen], fun _ => rfl, fun h => absurd h (Nat.lt_irrefl _), by simp⟩
  · simp [Value.cells] at hcs
    obtain ⟨rfl, rfl, rfl⟩ := hcs
    simp only [if_true] at hz
    refine ⟨some a, len, cap, zs.take len, rfl, by rw [List.length_take]; omega, hl, hm, (fun h => by cases h), fun h0 => ?_, fun n hn => hwz n (List.mem_of_mem_take hn)⟩
    obtain ⟨b, off, rfl, hh⟩ := ints_at hcell (by omega)
    refine ⟨b, off, rfl, block_lt (hh 0 (by omega)), fun j hj => ?_⟩
    rw [hh j (by omega)]
    simp [List.getD, hj]

theorem trodAll_stays (hl : laidOutB P = true) {W W' : World} {sp : Nat → Bool} :
    ∀ {ts : List TypeId} {vs : List Value} {ds : List (DataW H)} {ps : List MemPlace}, (∀ t ∈ ts, P.readableRec t = true ∧ t < P.types.size) → DataW.TrodAll enc P W 0 (fun _ => true) true ts vs ds ps →
      (∀ x ∈ ps, W.sameAt W' x) → (∀ x ∈ ps, sp x.block = true) → DataW.TrodAll enc P W' 0 sp true ts vs ds ps
  | [], _, _, _, _, h, _, _ => by
    obtain ⟨rfl, rfl, rfl⟩ := trodAll_nil h
    exact trodAll_mk0
  | t :: ts, _, _, _, ht, h, hs, hp => by
    obtain ⟨v, vs, d, ds, p, q, rfl, rfl, rfl, h1, h2⟩ := trodAll_cons h
    have ht0 := ht t (List.mem_cons.2 (Or.inl rfl))
    exact trodAll_cons_mk (Trod_stays hl ht0.1 ht0.2 h1 (fun x hx => hs x (List.mem_append_left _ hx)) (fun x hx => hp x (List.mem_append_left _ hx)))
      (trodAll_stays hl (fun t' h' => ht t' (List.mem_cons.2 (Or.inr h'))) h2 (fun x hx => hs x (List.mem_append_right _ hx)) (fun x hx => hp x (List.mem_append_right _ hx)))

theorem post_of_below {f : Func} {s : ChangeSpec} {apart fresh handsOn again : Bool} {W W' : World} {args : Array Value} {v : Value} {ds gs : List (DataW H)} {before pa pv : List MemPlace}
    (hW : DataW.Whole enc P f.params.toList s.vars apart W args.toList ds gs before)
    (hres : ∀ (b : Nat) (sp : Nat → Bool) (hd : Bool), DataW.TrodAll enc P W' b sp hd f.resultTypes.toList (v.resultList f.resultTypes.size) (s.fn H (ds ++ gs)).results [])
    (hargs : ∀ sp : Nat → Bool, (∀ p ∈ before, sp p.block = true) → DataW.TrodAll enc P W' 0 sp true f.params.toList args.toList (s.fn H (ds ++ gs)).args pa)
    (hvars : ∀ sp : Nat → Bool, (∀ p ∈ before, sp p.block = true) → DataW.TrodVars enc P W' sp s.vars (s.fn H (ds ++ gs)).vars pv)
    (hps : before = pa ++ pv) (hb : Below W.heap.size W W')
    (hok : ∀ (j : Nat) (t : TypeId) (r : Value), f.resultTypes[j]? = some t → (v.resultList f.resultTypes.size)[j]? = some r → Value.okWide P W' .any 0 t r) :
    s.post enc P f apart fresh handsOn again W args v W' := by
  have hlt : ∀ p ∈ before, p.block < W.heap.size := fun p hp => hW.lt p hp
  have hold : ∀ p ∈ before, (fun b => decide (b < W.heap.size)) p.block = true := fun p hp => by simpa using hlt p hp
  refine ⟨ds, gs, before, [], pa, pv, hW, hres _ _ _, hargs _ hold, hvars _ hold, World.keptBut_mono (fun p hp => ⟨hp, ?_⟩) (hb.frame (· ∈ before)), fun _ => ?_⟩
  · rw [hps, List.mem_append] at hp
    exact Or.inr hp
  · obtain ⟨_, _, _, _, _, hz, hn⟩ := hW
    refine ⟨hok, _, _, ([] ++ pa) ++ pv, ⟨[] ++ pa, pv, trodAll_append (hargs _ (fun _ _ => rfl)) (hres _ _ _), hvars _ (fun _ _ => rfl), rfl, ?_, ?_⟩, ?_⟩
    · intro b off hp
      have hin : MemPlace.cell b off ∈ before := by rw [hps]; simpa using hp
      rw [hb.frozen (hlt _ hin)]
      exact hz b off hin
    · intro ha
      have := hn ha
      rw [hps] at this
      simpa using this
    · intro p hp _
      rw [hps]
      simpa using hp

/-- What a law owes behind the call, where it answered true and wrote to new memory alone. -/
theorem law_post {f : Func} {s : ChangeSpec} {apart fresh handsOn again : Bool} {W W' : World} {args : Array Value} {ds : List (DataW H)} {before : List MemPlace} {tb : TypeId}
    (hW : DataW.Whole enc P f.params.toList s.vars apart W args.toList ds [] before) (hA : DataW.TrodAll enc P W 0 (fun _ => true) true f.params.toList args.toList ds before)
    (hsv : s.vars = []) (hl : laidOutB P = true) (hr : (f.params.toList.all fun t => P.readableRec t && decide (t < P.types.size)) = true) (hrt : f.resultTypes = #[tb]) (hbt : P.underlying tb = some .bool)
    (hfr : (s.fn H (ds ++ [])).results = [.lit (.bool true)]) (hfa : (s.fn H (ds ++ [])).args = ds) (hfv : (s.fn H (ds ++ [])).vars = []) (hb : Below W.heap.size W W') :
    s.post enc P f apart fresh handsOn again W args (.bool true) W' := by
  have hlt : ∀ p ∈ before, p.block < W.heap.size := fun p hp => hW.lt p hp
  refine post_of_below (pa := before) (pv := []) hW ?_ ?_ ?_ (by simp) hb ?_
  · intro b sp hd
    rw [hfr, hrt]
    exact trodAll_mk1 (shut_bool hbt _)
  · intro sp hsp
    rw [hfa]
    refine trodAll_stays hl (fun t ht => ?_) hA (fun x hx => hb.same (hlt x hx)) hsp
    have := List.all_eq_true.1 hr t ht
    simpa using this
  · intro sp _
    rw [hfv, hsv]
    rfl
  · intro j t r h1 h2
    exact ok_one hrt rfl (okWide_bool_mk hbt _) j t r h1 h2
end

theorem below_drewN {B : Nat} {a w : World} (h : Below B a w) (n : Nat) : Below B a (w.drewN n) := ⟨h.os, h.tape, h.output, h.size, h.block⟩
end Go.Proofs.Ytmmdkafkfjfgnaa

/- Package wrap's Next and Newer, and the document's, for all numbers. -/
namespace Go.Proofs.Ytmmdkafkfjfgnaa
open Go.RowKit

/-- The number behind one. -/
def nextV (a : Int) : Int := (a + 1) % 65536
theorem next_any (a : Int) (w : World) :
    Calls Try.prog 25 #[.int .u16 a] w fun e w' => e = .returned (.int .u16 (nextV a)) ∧ w = w' := by
  go_enter Try.func25, Try.ntmps25
  go_wp2
  go_ret
  exact ⟨ret_int (by rw [wrap_u16]; rfl), rfl⟩
theorem rnext_any (a : Int) (w : World) (ha : F16 a) :
    Calls Try.prog 30 #[.int .u16 a] w fun e w' => e = .returned (.int .u16 (nextV a)) ∧ w = w' := by
  obtain ⟨a1, a2⟩ := ha
  go_enter Try.func30, Try.ntmps30
  go_wp2
  go_ret
  exact ⟨ret_int (by unfold nextV; first | rfl | (simp only [wrap_u16]; omega)), rfl⟩
/-- Is a number newer? -/
def newB (a b : Int) : Bool := decide (1 ≤ (a - b) % 65536 ∧ (a - b) % 65536 ≤ 32767)
theorem newB_yes {a b : Int} (h : newB a b = true) : 1 ≤ (a - b) % 65536 ∧ (a - b) % 65536 ≤ 32767 := by simpa [newB] using h
theorem newB_no {a b : Int} (h : newB a b = false) : ¬ (1 ≤ (a - b) % 65536 ∧ (a - b) % 65536 ≤ 32767) := by
  unfold newB at h; exact of_decide_eq_false h
theorem newer_any (a b : Int) (w : World) :
    Calls Try.prog 27 #[.int .u16 a, .int .u16 b] w fun e w' => e = .returned (.bool (newB a b)) ∧ w = w' := by
  cases h : newB a b with
  | true =>
    have h1 := newB_yes h
    rw [← wrap_u16] at h1
    obtain ⟨h2, h3⟩ := h1
    have h4 : decide (IntKind.u16.wrap (a - b) < 32768) = true := decide_eq_true (by omega)
    clear h
    go_enter Try.func27, Try.ntmps27
    go_wp2
    go_ret
    exact ⟨rfl, rfl⟩
  | false =>
    have h1 := newB_no h
    rw [← wrap_u16] at h1
    by_cases h2 : 0 < IntKind.u16.wrap (a - b)
    · have h3 : decide (IntKind.u16.wrap (a - b) < 32768) = false := decide_eq_false (by omega)
      clear h h1
      go_enter Try.func27, Try.ntmps27
      go_wp2
      go_ret
      exact ⟨rfl, rfl⟩
    · clear h h1
      go_enter Try.func27, Try.ntmps27
      go_wp2
      go_ret
      exact ⟨rfl, rfl⟩
theorem rnewer_any (a b : Int) (w : World) (ha : F16 a) (hb : F16 b) :
    Calls Try.prog 28 #[.int .u16 a, .int .u16 b] w fun e w' => e = .returned (.bool (newB a b)) ∧ w = w' := by
  obtain ⟨a1, a2⟩ := ha
  obtain ⟨b1, b2⟩ := hb
  have e : (a + 65536 - b) % 65536 = (a - b) % 65536 := by omega
  cases h : newB a b with
  | true =>
    have h1 := newB_yes h
    rw [← e] at h1
    obtain ⟨h2, h3⟩ := h1
    have h4 : decide ((a + 65536 - b) % 65536 ≤ 32767) = true := decide_eq_true h3
    clear h e
    go_enter Try.func28, Try.ntmps28
    go_wp2
    go_ret
    exact ⟨rfl, rfl⟩
  | false =>
    have h1 := newB_no h
    rw [← e] at h1
    by_cases h2 : 1 ≤ (a + 65536 - b) % 65536
    · have h3 : decide ((a + 65536 - b) % 65536 ≤ 32767) = false := decide_eq_false (by omega)
      clear h h1 e
      go_enter Try.func28, Try.ntmps28
      go_wp2
      go_ret
      exact ⟨rfl, rfl⟩
    · clear h h1 e
      go_enter Try.func28, Try.ntmps28
      go_wp2
      go_ret
      exact ⟨rfl, rfl⟩
end Go.Proofs.Ytmmdkafkfjfgnaa

/- Package anchor, plainly: what a book has, and what its calls make of it and answer. -/
namespace Go.Proofs.Ytmmdkafkfjfgnaa
open Go.RowKit
set_option linter.unusedVariables false
set_option linter.unusedSimpArgs false

def in63 (n : Int) : Bool := decide (0 ≤ n) && decide (n ≤ 63)
def in16 (n : Int) : Bool := decide (0 ≤ n) && decide (n ≤ 65535)
def in50 (n : Int) : Bool := decide (0 ≤ n) && decide (n ≤ 1125899906842624)
theorem in63_iff (n : Int) : in63 n = true ↔ 0 ≤ n ∧ n ≤ 63 := by unfold in63; simp
theorem in16_iff (n : Int) : in16 n = true ↔ 0 ≤ n ∧ n ≤ 65535 := by unfold in16; simp
theorem in50_iff (n : Int) : in50 n = true ↔ 0 ≤ n ∧ n ≤ 1125899906842624 := by unfold in50; simp
/-- Can an anchor be: of whom, which number, of which root, in which life, its time, its second? -/
def ancB (f q r b g t : Int) : Bool := in63 f && (in16 q && (in63 r && (in16 b && (in50 g && in50 t))))
theorem ancB_iff (f q r b g t : Int) : ancB f q r b g t = true ↔ (0 ≤ f ∧ f ≤ 63) ∧ (0 ≤ q ∧ q ≤ 65535) ∧ (0 ≤ r ∧ r ≤ 63) ∧ (0 ≤ b ∧ b ≤ 65535) ∧ (0 ≤ g ∧ g ≤ 1125899906842624) ∧ (0 ≤ t ∧ t ≤ 1125899906842624) := by
  unfold ancB
  simp only [Bool.and_eq_true, in63_iff, in16_iff, in50_iff]
/-- What a book has: whether there is an anchor, and its numbers. -/
structure BS where
  has : Bool
  f : Int
  q : Int
  r : Int
  b : Int
  g : Int
  t : Int
def BS.none : BS := ⟨false, 0, 0, 0, 0, 0, 0⟩
/-- What is known of it. -/
structure BInv (s : BS) : Prop where
  f : 0 ≤ s.f ∧ s.f ≤ 63
  q : 0 ≤ s.q ∧ s.q ≤ 65535
  r : 0 ≤ s.r ∧ s.r ≤ 63
  b : 0 ≤ s.b ∧ s.b ≤ 65535
  g : 0 ≤ s.g ∧ s.g ≤ 1125899906842624
  t : 0 ≤ s.t ∧ s.t ≤ 1125899906842624
theorem BInv.none : BInv .none := by constructor <;> decide
theorem BInv.of {h : Bool} {f q r b g t : Int} (k : ancB f q r b g t = true) : BInv ⟨h, f, q, r, b, g, t⟩ := by
  obtain ⟨k1, k2, k3, k4, k5, k6⟩ := (ancB_iff _ _ _ _ _ _).1 k
  exact ⟨k1, k2, k3, k4, k5, k6⟩
/-- Is it heard? -/
def anHeard (s : BS) (f q r b g t : Int) : Bool := ancB f q r b g t && (!s.has || newB q s.q)
def anHear (s : BS) (f q r b g t : Int) : BS := if anHeard s f q r b g t = true then ⟨true, f, q, r, b, g, t⟩ else s
theorem BInv.hear {s : BS} (h : BInv s) (f q r b g t : Int) : BInv (anHear s f q r b g t) := by
  unfold anHear
  split
  · rename_i k
    unfold anHeard at k
    rw [Bool.and_eq_true] at k
    exact .of k.1
  · exact h
def anMade (s : BS) (f r b g t : Int) : Bool := ancB f (nextV s.q) r b g t
def anMake (s : BS) (f r b g t : Int) : BS := if anMade s f r b g t = true then ⟨true, f, nextV s.q, r, b, g, t⟩ else s
theorem BInv.make {s : BS} (h : BInv s) (f r b g t : Int) : BInv (anMake s f r b g t) := by
  unfold anMake
  split
  · rename_i k
    exact .of k
  · exact h
/-- Has it an anchor of a root, in a life? The error. -/
def anOf (s : BS) (r b : Int) : Int := if s.has = true then (if r = s.r ∧ b = s.b then 0 else 9) else 7
theorem anOf_cases (s : BS) (r b : Int) : (s.has = false ∧ anOf s r b = 7) ∨ (s.has = true ∧ r ≠ s.r ∧ anOf s r b = 9) ∨ (s.has = true ∧ r = s.r ∧ b ≠ s.b ∧ anOf s r b = 9) ∨ (s.has = true ∧ r = s.r ∧ b = s.b ∧ anOf s r b = 0) := by
  unfold anOf
  cases s.has
  · exact .inl ⟨rfl, rfl⟩
  · by_cases h1 : r = s.r
    · by_cases h2 : b = s.b
      · exact .inr (.inr (.inr ⟨rfl, h1, h2, by rw [if_pos rfl, if_pos ⟨h1, h2⟩]⟩))
      · exact .inr (.inr (.inl ⟨rfl, h1, h2, by rw [if_pos rfl, if_neg (fun k => h2 k.2)]⟩))
    · exact .inr (.inl ⟨rfl, h1, by rw [if_pos rfl, if_neg (fun k => h1 k.1)]⟩)
theorem anOf_bd (s : BS) (r b : Int) : anOf s r b = 0 ∨ anOf s r b = 7 ∨ anOf s r b = 9 := by
  rcases anOf_cases s r b with h | h | h | h
  · exact .inr (.inl h.2)
  · exact .inr (.inr h.2.2)
  · exact .inr (.inr h.2.2.2)
  · exact .inl h.2.2.2
/-- What Tai answers: the second, the ticks, the error. -/
def anTai (s : BS) (r b n : Int) : Int × Int × Int :=
  if anOf s r b = 0 then (if 0 ≤ n ∧ n ≤ 1125899906842624 then (s.t + (n - s.g) / 1000, (n - s.g) % 1000, 0) else (0, 0, 8)) else (0, 0, anOf s r b)
/-- What Time answers. -/
def anTime (s : BS) (r b n : Int) : Int × Int :=
  if anOf s r b = 0 then (if (-1125899906842624 ≤ n ∧ n ≤ 1125899906842624) ∧ (0 ≤ s.g + 1000 * (n - s.t) ∧ s.g + 1000 * (n - s.t) ≤ 1125899906842624) then (s.g + 1000 * (n - s.t), 0) else (0, 8)) else (0, anOf s r b)
end Go.Proofs.Ytmmdkafkfjfgnaa

/- Rows of integers: those that came in, those that a call made, pieces of them, one appended to another. Nothing here speaks of one program. -/
namespace Go.Proofs.Ytmmdkafkfjfgnaa
open Go.RowKit

theorem size_alloc (w : World) (o : Obj) : (w.alloc o).heap.size = w.heap.size + 1 := by simp
theorem below_alloc (w : World) (o : Obj) : Below w.heap.size w (w.alloc o) := (Below.refl _ _).alloc (Nat.le_refl _) o

section
variable {w w' : World} {k : IntKind} {A : Option Addr} {n c B : Nat} {e : TypeId} {zs : List Int}

theorem IntRow.keep (h : IntRow w k A n c zs) (hs : w.heap.size ≤ w'.heap.size) (hk : ∀ b o, b < w.heap.size → w'.cell? ⟨b, o, none⟩ = w.cell? ⟨b, o, none⟩) : IntRow w' k A n c zs :=
  ⟨h.len_eq, h.cap_le, h.max, h.nil, fun hn => by
    obtain ⟨b, off, e, hb, hc⟩ := h.cell hn
    exact ⟨b, off, e, Nat.lt_of_lt_of_le hb hs, fun j hj => (hk _ _ hb).trans (hc j hj)⟩, h.wf⟩
theorem IntRow.below (h : IntRow w k A n c zs) (hb : Below w.heap.size w w') : IntRow w' k A n c zs := h.keep hb.size fun b o hlt => hb.cell (p := ⟨b, o, none⟩) hlt
theorem IntRow.alloc (h : IntRow w k A n c zs) (o : Obj) : IntRow (w.alloc o) k A n c zs := h.below (below_alloc w o)
theorem IntRow.drewN (h : IntRow w k A n c zs) (m : Nat) : IntRow (w.drewN m) k A n c zs := h.below (below_drewN (Below.refl _ _) m)
theorem IntRow.pre (h : IntRow w k A n c zs) {m : Nat} (hm : m ≤ n) : IntRow w k A m c (zs.take m) :=
  ⟨by rw [List.length_take, h.len_eq]; omega, Nat.le_trans hm h.cap_le, h.max, h.nil, fun h0 => by
    obtain ⟨b, off, e, hb, hc⟩ := h.cell (by omega)
    refine ⟨b, off, e, hb, fun j hj => ?_⟩
    rw [hc j (by omega)]
    simp [List.getD, hj], fun n hn => h.wf n (List.mem_of_mem_take hn)⟩
/-- The integers that lie in a row, as cells. -/
theorem IntRow.of_own (h : w.ownsRow B e 1 (.slice A n c) n (zs.map (.int k))) (hw : ∀ n ∈ zs, (Lit.int k n).wf = true) : IntRow w k A n c zs := by
  have hl : zs.length = n := by have := h.1; simpa using this
  rcases h.2 with ⟨he, hn⟩ | ⟨g, cap, cur, he, hB, hg, hnc, hcm, hcs, htake⟩
  · simp only [Value.slice.injEq] at he
    obtain ⟨rfl, rfl, rfl⟩ := he
    exact ⟨hl, Nat.le_refl _, by simp [maxLen], fun _ => rfl, fun h => absurd h (Nat.lt_irrefl _), hw⟩
  · simp only [Value.slice.injEq, true_and] at he
    obtain ⟨rfl, rfl⟩ := he
    refine ⟨hl, hnc, hcm, (fun h => by cases h), fun h0 => ⟨g, 0, rfl, (Array.getElem?_eq_some_iff.1 hg).1, fun j hj => ?_⟩, hw⟩
    have := World.ownsRow.cellAt h j (by omega)
    rw [Nat.zero_add, this]
    simp [List.getD, show j < zs.length by omega]
theorem own_keep {v : Value} {xs : List Value} (h : w.ownsRow B e 1 v n xs) (hb : Below w.heap.size w w') : w'.ownsRow B e 1 v n xs :=
  h.kept (row := none) ⟨hb.os, hb.tape, hb.output, hb.size, fun k hk _ => hb.block k hk⟩ (by
    rcases h.2 with ⟨rfl, _⟩ | ⟨g, cap, cur, rfl, _⟩
    · exact .inl rfl
    · exact .inr (by simp [Value.ownBlock]))
theorem own_mono {v : Value} {xs : List Value} (h : w.ownsRow B e 1 v n xs) {B' : Nat} (hB : B' ≤ B) : w.ownsRow B' e 1 v n xs :=
  ⟨h.1, by
    rcases h.2 with h | ⟨g, cap, cur, rfl, hg, r⟩
    · exact .inl h
    · exact .inr ⟨g, cap, cur, rfl, Nat.le_trans hB hg, r⟩⟩
end

section
variable {w w' : World} {k : IntKind} {A : Option Addr} {n c B : Nat} {e : TypeId} {zs : List Int}
/-- A cell of a row of the call's own is written. -/
theorem own_set {g : Nat} (h : w.ownsRow B e 1 (.slice (some ⟨g, 0, none⟩) n c) n (zs.map (.int k))) (j : Nat) (z : Int) :
    (w.setCell ⟨g, j, none⟩ (.int k z)).ownsRow B e 1 (.slice (some ⟨g, 0, none⟩) n c) n ((zs.set j z).map (.int k)) := by
  rw [List.map_set]
  exact (h.stored j _).1
theorem own_cell {g : Nat} (h : w.ownsRow B e 1 (.slice (some ⟨g, 0, none⟩) n c) n (zs.map (.int k))) {j : Nat} (hj : j < n) : w.cell? ⟨g, j, none⟩ = some (.int k (zs[j]?.getD 0)) := by
  have hl := h.1
  rw [List.length_map, Nat.mul_one] at hl
  have := World.ownsRow.cellAt h j (by omega)
  rw [this, List.getElem?_map, List.getElem?_eq_getElem (by omega)]
  rfl
theorem own_form {A : Option Addr} (h : w.ownsRow B e 1 (.slice A n c) n (zs.map (.int k))) (hn : 0 < n) : ∃ g, A = some ⟨g, 0, none⟩ ∧ B ≤ g ∧ g < w.heap.size := by
  obtain ⟨g, cap, he, h1, h2⟩ := h.form hn
  simp only [Value.slice.injEq] at he
  exact ⟨g, he.1, h1, h2⟩
end
theorem wf_set {k : IntKind} {zs : List Int} (h : ∀ n ∈ zs, (Lit.int k n).wf = true) {z : Int} (hz : (Lit.int k z).wf = true) (j : Nat) : ∀ n ∈ zs.set j z, (Lit.int k n).wf = true := fun n hn => by
  rcases List.mem_or_eq_of_mem_set hn with h1 | rfl
  · exact h n h1
  · exact hz

/-- A row that was just laid. -/
theorem IntRow.laid (w : World) (e : TypeId) (k : IntKind) (zs : List Int) (m : Nat) (hm : zs.length = m) (h63 : m ≤ maxLen) (hw : ∀ n ∈ zs, (Lit.int k n).wf = true) :
    IntRow (w.alloc (.cells (zs.map (Value.int k)).toArray e)) k (some ⟨w.heap.size, 0, none⟩) m m zs :=
  IntRow.of_own (B := 0) (e := e) (by simpa using World.ownsRow_lit (base := 0) (size := 1) w (zs.map (Value.int k)).toArray m (Nat.zero_le _) h63 (by simp [hm])) hw
/-- A constant row that was just laid. -/
theorem IntRow.laid_fr (w : World) (e : TypeId) (k : IntKind) (zs : List Int) (m : Nat) (fr : Nat × Nat) (hm : zs.length = m) (h63 : m ≤ maxLen) (hw : ∀ n ∈ zs, (Lit.int k n).wf = true) :
    IntRow (w.alloc (.cells (zs.map (Value.int k)).toArray e fr)) k (some ⟨w.heap.size, 0, none⟩) m m zs :=
  ⟨hm, Nat.le_refl _, h63, (fun h => by cases h), fun _ => ⟨_, 0, rfl, by simp, fun j hj => by
    rw [Nat.zero_add, cell_of_row _ _ j _ e fr (heap_alloc_new w _)]
    simp [List.getD, show j < zs.length by omega]⟩, hw⟩
/-- A call answers a row of integers of its own. -/
def GaveRow (el : TypeId) (k : IntKind) (w : World) (n : Nat) (zs : List Int) (e : Ending) (w' : World) : Prop :=
  ∃ A c, e = .returned (.slice A n c) ∧ w'.ownsRow w.heap.size el 1 (.slice A n c) n (zs.map (.int k)) ∧ Below w.heap.size w w'
theorem gave {el : TypeId} {k : IntKind} {w w' : World} {n : Nat} {zs : List Int} {A : Option Addr} {c : Nat} (ho : w'.ownsRow w.heap.size el 1 (.slice A n c) n (zs.map (.int k))) (hb : Below w.heap.size w w') :
    GaveRow el k w n zs (.returned (.slice A n c)) w' := ⟨A, c, rfl, ho, hb⟩

section
variable {P : Program} (w : World)
theorem run_append_row (B : Nat) (t ty e : TypeId) (i : TypeInfo) (z : Value) (bytes : Nat) (ht : P.underlying t = some (.slice e)) (hi : P.info? e = some i) (hz : i.zero = some z)
    (hsize : i.size = 1) (hby : i.bytes = bytes) (hzs : z.cells.size = 1) (v : Value) (n : Nat) (xs : List Value) (hown : w.ownsRow B e 1 v n xs)
    (k : IntKind) (A : Option Addr) (m c : Nat) (zs : List Int) (hr : IntRow w k A m c zs) (h63 : n + m ≤ maxLen) (hbytes : (n + m) * bytes ≤ 140737488355328) (hbase : B ≤ w.heap.size) :
    ∃ A' c' w', (Builtin.append_ #[t, t] ty #[v, .slice A m c]).run P w = .ok (.slice A' (n + m) c') w' ∧ w'.ownsRow B e 1 (.slice A' (n + m) c') (n + m) (xs ++ zs.map (.int k)) ∧ Below B w w' := by
  have hshape : ∀ (w1 : World) (v1 : Value) (l : Nat) (ys : List Value), w1.ownsRow B e 1 v1 l ys → ∃ A' c', v1 = .slice A' l c' := by
    intro w1 v1 l ys h
    rcases h.2 with ⟨rfl, rfl⟩ | ⟨g, cap, cur, rfl, _⟩
    · exact ⟨_, _, rfl⟩
    · exact ⟨_, _, rfl⟩
  rcases A with _ | ad
  · have hc := hr.nil rfl
    have hcl := hr.cap_le
    obtain rfl : m = 0 := by omega
    have hn : zs = [] := List.eq_nil_of_length_eq_zero hr.len_eq
    subst hn
    obtain ⟨A', c', rfl⟩ := hshape _ _ _ _ hown
    refine ⟨A', c', w, ?_, by simpa using hown, Below.refl _ _⟩
    rw [Nat.add_zero]
    exact run_append_owned_none (P := P) w B t ty e i 1 ht hi _ n xs hown
  · obtain ⟨v', w', h1, h2, h3, _, _⟩ := run_append_own_at (P := P) w B t ty e i z 1 bytes ht hi hz hsize hby hzs (by omega) v n xs hown ad m c (zs.map (.int k)) (by simpa using hr.len_eq)
      (fun j u hu => by
        have hj : j < m := by
          have := (List.getElem?_eq_some_iff.1 hu).1
          have := hr.len_eq
          simp at *
          omega
        obtain ⟨b, off, e1, _, hc⟩ := hr.cell (by omega)
        simp only [Option.some.injEq] at e1
        subst e1
        have hp : (⟨b, off, none⟩ : Addr).add j = ⟨b, off + j, none⟩ := by unfold Addr.add; split <;> simp_all
        rw [hp, hc j hj]
        have hjl : j < zs.length := by rw [hr.len_eq]; exact hj
        simp [List.getElem?_eq_getElem hjl] at hu
        simp [List.getD, List.getElem?_eq_getElem hjl, hu])
      (ints_oneCell k zs) h63 hbytes hbase
    obtain ⟨A', c', rfl⟩ := hshape _ _ _ _ h2
    exact ⟨A', c', w', h1, h2, (Below.refl _ _).grown h3 hbase (fun g hg => (hown.lt g hg).1)⟩

/-- What is appended to a row of the call's own is a row that reads. -/
theorem wpList_append_row {ops : Array Oper} {rest : List Oper} {o : Oper} {a : Act} {Q : Exit → Act → World → Prop} (hgd : o.guard = none) (s x : Operand) (t : TypeId)
    (ho : o.op = .call { callee := .builtin .append, args := #[s, x], argTypes := #[t, t] })
    (B : Nat) (e : TypeId) (i : TypeInfo) (z : Value) (bytes : Nat) (ht : P.underlying t = some (.slice e)) (hi : P.info? e = some i) (hz : i.zero = some z)
    (hsize : i.size = 1) (hby : i.bytes = bytes) (hzs : z.cells.size = 1) (v : Value) (n : Nat) (xs : List Value) (hs : a.eval s = v) (hown : w.ownsRow B e 1 v n xs)
    (k : IntKind) (A : Option Addr) (m c : Nat) (zs : List Int) (hx : a.eval x = .slice A m c) (hr : IntRow w k A m c zs) (h63 : n + m ≤ maxLen) (hbytes : (n + m) * bytes ≤ 140737488355328) (hbase : B ≤ w.heap.size)
    (h : ∀ A' c' w', w'.ownsRow B e 1 (.slice A' (n + m) c') (n + m) (xs ++ zs.map (.int k)) → Below B w w' → wpList P ops Q rest (a.put o.dst (.slice A' (n + m) c')) w') :
    wpList P ops Q (o :: rest) a w := by
  refine wpList_plain hgd fun K hK => ?_
  obtain ⟨A', c', w', hrun, h2, h3⟩ := run_append_row (P := P) w B t o.type e i z bytes ht hi hz hsize hby hzs v n xs hown k A m c zs hr h63 hbytes hbase
  unfold Oper.wp execOp
  simp only [ho, resolve, invoke, builtin, Sem.run_bind, Sem.run_pure, Result.andThen_ok, List.map_toArray, List.map_cons, List.map_nil, hs, hx, hrun]
  exact hK _ _ (h A' c' w' h2 h3)

/-- Bytes that lie in a row, as a string. -/
theorem run_convert_row (src e dst : TypeId) (hs : P.underlying src = some (.slice e)) (he : P.underlying e = some (.int .u8)) (hd : P.underlying dst = some .string)
    (A : Option Addr) (m c : Nat) (zs : List Int) (hr : IntRow w .u8 A m c zs) : (convert src dst (.slice A m c)).run P w = .ok (.string (strOfNums zs)) w := by
  rcases A with _ | ad
  · have hc := hr.nil rfl
    have hcl := hr.cap_le
    obtain rfl : m = 0 := by omega
    have hn : zs = [] := List.eq_nil_of_length_eq_zero hr.len_eq
    subst hn
    exact run_convert_bytes_nil (P := P) w src e hs he 0 c dst hd
  · by_cases hm : 0 < m
    · obtain ⟨b, off, e1, _, hc⟩ := hr.cell hm
      simp only [Option.some.injEq] at e1
      subst e1
      exact run_convert_bytes_arg (P := P) w src e hs he b off m c zs hr.len_eq hc dst hd
    · obtain rfl : m = 0 := by omega
      have hn : zs = [] := List.eq_nil_of_length_eq_zero hr.len_eq
      subst hn
      rw [run_convert_bytes_string w src dst e _ 0 c hs he hd]
      rfl
end
end Go.Proofs.Ytmmdkafkfjfgnaa

/- Blocks of a call's own that are known whole (structs behind pointers), and rows of integers beside them. Nothing here speaks of one program. -/
namespace Go.Proofs.Ytmmdkafkfjfgnaa
open Go.RowKit

/-- Block g holds just these cells, and none is frozen. -/
def Holds (w : World) (g : Nat) (t : TypeId) (cs : Array Value) : Prop := w.heap[g]? = some (.cells cs t (0, 0))

section
variable {w w' : World} {g : Nat} {t : TypeId} {cs : Array Value}
theorem Holds.lt (h : Holds w g t cs) : g < w.heap.size := (Array.getElem?_eq_some_iff.1 h).1
theorem Holds.cell (h : Holds w g t cs) (i : Nat) : w.cell? ⟨g, i, none⟩ = cs[i]? := cell_of_row w g i cs t (0, 0) h
theorem Holds.soft (h : Holds w g t cs) (i : Nat) : w.frozen? ⟨g, i, none⟩ = false := by
  have h' : w.heap[g]? = _ := h
  simp [World.frozen?, h']
theorem Holds.new (w : World) (t : TypeId) (cs : Array Value) : Holds (w.alloc (.cells cs t)) w.heap.size t cs := heap_alloc_new w _
theorem Holds.drewN (h : Holds w g t cs) (n : Nat) : Holds (w.drewN n) g t cs := h
theorem Holds.alloc (h : Holds w g t cs) (o : Obj) : Holds (w.alloc o) g t cs := (Below.heap_alloc w o g h.lt).trans h
theorem Holds.put (h : Holds w g t cs) (i : Nat) (u : Value) : Holds (w.setCell ⟨g, i, none⟩ u) g t (cs.setIfInBounds i u) := by
  have h' : w.heap[g]? = _ := h
  show (w.setCell ⟨g, i, none⟩ u).heap[g]? = _
  simp [World.setCell, Array.getElem?_modify, h']
theorem Holds.far (h : Holds w g t cs) {b i : Nat} (hb : g ≠ b) (u : Value) : Holds (w.setCell ⟨b, i, none⟩ u) g t cs := (Below.heap_setCell w ⟨b, i, none⟩ u g hb).trans h
theorem Holds.below {B : Nat} (h : Holds w g t cs) (hb : Below B w w') (hg : g < B) : Holds w' g t cs := (hb.block g hg).trans h
theorem Holds.grown {row : Option Nat} (h : Holds w g t cs) (hb : w.grownBy w' row) (hg : some g ≠ row) : Holds w' g t cs := (hb.block g h.lt hg).trans h
theorem Holds.apart {g' : Nat} {t' : TypeId} {cs' : Array Value} (h : Holds w g t cs) (h' : Holds w g' t' cs') (hne : t ≠ t') : g ≠ g' := by
  rintro rfl
  have e : some (Obj.cells cs t (0, 0)) = some (Obj.cells cs' t' (0, 0)) := h.symm.trans h'
  simp only [Option.some.injEq, Obj.cells.injEq] at e
  exact hne e.2.1
/-- A row of the call's own lies in another block than a struct of another type. -/
theorem Holds.own_apart {B : Nat} {e : TypeId} {n sz : Nat} {v : Value} {xs : List Value} (h : Holds w g t cs) (ho : w.ownsRow B e sz v n xs) (hne : e ≠ t) : v.ownBlock ≠ some g := by
  rcases ho.2 with ⟨rfl, _⟩ | ⟨g', cap, cur, rfl, _, hh, _⟩
  · simp [Value.ownBlock]
  · intro he
    have e' : g' = g := by simpa [Value.ownBlock] using he
    subst e'
    exact Holds.apart (t := e) hh h hne rfl
end

theorem grown_set (w : World) (g i : Nat) (u : Value) : w.grownBy (w.setCell ⟨g, i, none⟩ u) (some g) :=
  ⟨rfl, rfl, rfl, by simp [World.setCell], fun k _ hk => Below.heap_setCell w ⟨g, i, none⟩ u k (fun e => hk (by rw [e]))⟩
theorem grown_trans {a b c : World} {row : Option Nat} (h : a.grownBy b row) (k : b.grownBy c row) : a.grownBy c row :=
  ⟨k.os.trans h.os, k.tape.trans h.tape, k.output.trans h.output, Nat.le_trans h.size k.size, fun i hi hr => (k.block i (Nat.lt_of_lt_of_le hi h.size) hr).trans (h.block i hi hr)⟩
theorem grown_drewN {a b : World} {row : Option Nat} (h : a.grownBy b row) (n : Nat) : a.grownBy (b.drewN n) row := ⟨h.os, h.tape, h.output, h.size, h.block⟩

/-- A row of integers whose block, if there is one, is not older than B. -/
structure NewRow (B : Nat) (w : World) (k : IntKind) (A : Option Addr) (n c : Nat) (zs : List Int) : Prop where
  row : IntRow w k A n c zs
  newer : 0 < n → ∃ b off, A = some ⟨b, off, none⟩ ∧ B ≤ b

section
variable {w w' : World} {k : IntKind} {A : Option Addr} {n c B : Nat} {zs : List Int}
theorem NewRow.block (h : NewRow B w k A n c zs) (hn : 0 < n) : ∃ b off, A = some ⟨b, off, none⟩ ∧ B ≤ b ∧ b < w.heap.size ∧ ∀ j, j < n → w.cell? ⟨b, off + j, none⟩ = some (.int k (zs.getD j 0)) := by
  obtain ⟨b, off, e, hb⟩ := h.newer hn
  obtain ⟨b', off', e', hs, hc⟩ := h.row.cell hn
  rw [e] at e'
  simp only [Option.some.injEq, Addr.mk.injEq] at e'
  obtain ⟨rfl, rfl, _⟩ := e'
  exact ⟨b, off, e, hb, hs, hc⟩
theorem IntRow.keep1 (h : IntRow w k A n c zs) (hs : w.heap.size ≤ w'.heap.size) (hk : ∀ b off, A = some ⟨b, off, none⟩ → 0 < n → ∀ o, w'.cell? ⟨b, o, none⟩ = w.cell? ⟨b, o, none⟩) : IntRow w' k A n c zs :=
  ⟨h.len_eq, h.cap_le, h.max, h.nil, fun hn => by
    obtain ⟨b, off, e, hb, hc⟩ := h.cell hn
    exact ⟨b, off, e, Nat.lt_of_lt_of_le hb hs, fun j hj => (hk b off e hn _).trans (hc j hj)⟩, h.wf⟩
/-- Nothing changed but block g, which holds none of the row's integers. -/
theorem IntRow.grown {g : Nat} {t : TypeId} {cs : Array Value} (h : IntRow w k A n c zs) (hg : w.grownBy w' (some g)) (ho : Holds w g t cs) (hcs : ∀ (i : Nat) z, cs[i]? ≠ some (Value.int k z)) : IntRow w' k A n c zs := by
  refine h.keep1 hg.size fun b off e hn o => ?_
  obtain ⟨b', off', e', hs, hc⟩ := h.cell hn
  rw [e] at e'
  simp only [Option.some.injEq, Addr.mk.injEq] at e'
  obtain ⟨rfl, rfl, _⟩ := e'
  refine World.cell?_of_block (hg.block b hs fun e => ?_)
  simp only [Option.some.injEq] at e
  subst e
  have h0 := hc 0 hn
  rw [ho.cell] at h0
  exact hcs _ _ h0
theorem NewRow.grown {g : Nat} {t : TypeId} {cs : Array Value} (h : NewRow B w k A n c zs) (hg : w.grownBy w' (some g)) (ho : Holds w g t cs) (hcs : ∀ (i : Nat) z, cs[i]? ≠ some (Value.int k z)) : NewRow B w' k A n c zs := ⟨h.row.grown hg ho hcs, h.newer⟩
theorem NewRow.below (h : NewRow B w k A n c zs) (hb : Below w.heap.size w w') : NewRow B w' k A n c zs := ⟨h.row.below hb, h.newer⟩
/-- Cells of blocks older than the row's were written. -/
theorem NewRow.older (h : NewRow B w k A n c zs) {b i : Nat} (hb : b < B) (u : Value) : NewRow B (w.setCell ⟨b, i, none⟩ u) k A n c zs := by
  refine ⟨h.row.keep1 (by simp [World.setCell]) fun b' off e hn o => ?_, h.newer⟩
  obtain ⟨b2, off2, e2, hB⟩ := h.newer hn
  rw [e] at e2
  simp only [Option.some.injEq, Addr.mk.injEq] at e2
  refine World.cell?_of_block (Below.heap_setCell w ⟨b, i, none⟩ u b' (by show b' ≠ b; omega))
theorem NewRow.mono {B' : Nat} (h : NewRow B w k A n c zs) (hB : B' ≤ B) : NewRow B' w k A n c zs := ⟨h.row, fun hn => by
  obtain ⟨b, off, e, hb⟩ := h.newer hn
  exact ⟨b, off, e, by omega⟩⟩
theorem NewRow.of_own {e : TypeId} (h : w.ownsRow B e 1 (.slice A n c) n (zs.map (.int k))) (hw : ∀ n ∈ zs, (Lit.int k n).wf = true) : NewRow B w k A n c zs :=
  ⟨IntRow.of_own h hw, fun hn => by
    obtain ⟨g, e, hg, _⟩ := own_form h hn
    exact ⟨g, 0, e, hg⟩⟩
/-- The first m integers cut off, as the model spells the address behind the cut. -/
theorem NewRow.cut (h : NewRow B w k A n c zs) {m : Nat} (hm : m ≤ n) : NewRow B w k (if c = m then A else A.map (·.add m)) (n - m) (c - m) (zs.drop m) := by
  have hc := h.row.cap_le
  have hx := h.row.max
  have ha : ∀ b off, (⟨b, off, none⟩ : Addr).add m = ⟨b, off + m, none⟩ := fun b off => by unfold Addr.add; split <;> simp_all
  refine ⟨⟨by rw [List.length_drop, h.row.len_eq], by omega, by omega, fun e => ?_, fun hn => ?_, fun z hz => h.row.wf z (List.mem_of_mem_drop hz)⟩, fun hn => ?_⟩
  · split at e
    · have := h.row.nil e
      omega
    · have := h.row.nil (by cases A <;> simp_all)
      omega
  · obtain ⟨b, off, rfl, _, hb, hcell⟩ := h.block (by omega)
    rw [if_neg (by omega)]
    refine ⟨b, off + m, by rw [← ha]; rfl, hb, fun j hj => ?_⟩
    rw [Nat.add_assoc, hcell (m + j) (by omega)]
    simp [List.getD, List.getElem?_drop]
  · obtain ⟨b, off, rfl, hB, _, _⟩ := h.block (by omega)
    rw [if_neg (by omega)]
    exact ⟨b, off + m, by rw [← ha]; rfl, hB⟩
end
theorem IntRow.cut {w : World} {k : IntKind} {A : Option Addr} {n c : Nat} {zs : List Int} (h : IntRow w k A n c zs) {m : Nat} (hm : m ≤ n) :
    IntRow w k (if c = m then A else A.map (·.add m)) (n - m) (c - m) (zs.drop m) :=
  (NewRow.cut (B := 0) ⟨h, fun hn => by
    obtain ⟨b, off, e, _⟩ := h.cell hn
    exact ⟨b, off, e, Nat.zero_le _⟩⟩ hm).row
end Go.Proofs.Ytmmdkafkfjfgnaa

/- Whatever picks numbers in package frame: what is asked of it. -/
namespace Go.Proofs.Ytmmdkafkfjfgnaa
open Go.RowKit

/-- What picks: a function value over what it captured; its state, what it tells and what it makes of the state. -/
structure Picks (S : Type) where
  fn : FuncId
  caps : Array Value
  base : Nat
  inv : S → World → Prop
  next : S → Int → Int → S
  tells : S → Int → Int → Int
  good : S → Int → Int → Prop

/-- The types of frames' own variables. -/
def frameType (t : TypeId) : Prop := t = 119 ∨ t = 121 ∨ t = 123 ∨ t = 125 ∨ t = 127 ∨ t = 31

/-- No byte lies among these values. -/
def notByte : Value → Bool
  | .int .u8 _ => false
  | _ => true
def noByte (cs : Array Value) : Prop := ∀ (i : Nat) v, cs[i]? = some v → notByte v = true
theorem noByte_of {cs : Array Value} (h : cs.toList.all notByte = true) : noByte cs := fun i v hv => by
  refine List.all_eq_true.1 h v ?_
  rw [Array.mem_toList_iff]
  exact Array.mem_of_getElem? hv
theorem noByte.put {cs : Array Value} (h : noByte cs) (i : Nat) {u : Value} (hu : notByte u = true) : noByte (cs.setIfInBounds i u) := fun j v hv => by
  rw [Array.getElem?_setIfInBounds] at hv
  split at hv
  · split at hv
    · simp only [Option.some.injEq] at hv
      rw [← hv]
      exact hu
    · cases hv
  · exact h j v hv
theorem noByte.int {cs : Array Value} (h : noByte cs) (i : Nat) (z : Int) : cs[i]? ≠ some (.int .u8 z) := fun e => by
  have := h i _ e
  cases this

/-- A call keeps a frame's own variable. -/
def KeepsFrames (w w' : World) : Prop := w.heap.size ≤ w'.heap.size ∧ ∀ g t cs, frameType t → Holds w g t cs → Holds w' g t cs
theorem KeepsFrames.trans {a b c : World} (h : KeepsFrames a b) (k : KeepsFrames b c) : KeepsFrames a c := ⟨Nat.le_trans h.1 k.1, fun g t cs ht hh => k.2 g t cs ht (h.2 g t cs ht hh)⟩

structure Picks.Right {S : Type} (p : Picks S) : Prop where
  enters : Enters Try.prog p.fn
  call : ∀ s k n w, p.inv s w → p.good s k n → Calls Try.prog p.fn (#[.int .i64 k, .int .i64 n] ++ p.caps) w fun e w' => e = .returned (.int .i64 (p.tells s k n)) ∧ p.inv (p.next s k n) w' ∧ KeepsFrames w w'
  drew : ∀ s w, p.inv s w → p.inv s w.drew
  alloc : ∀ s w o, p.inv s w → p.inv s (w.alloc o)
  size : ∀ s w, p.inv s w → p.base ≤ w.heap.size
  store : ∀ s w g i u t cs, p.inv s w → p.base ≤ g → frameType t → noByte cs → Holds w g t cs → p.inv s (w.setCell ⟨g, i, none⟩ u)

/-- One pick: from a state to the next, a number asked and one told. -/
def Pick {S : Type} (p : Picks S) (s : S) (k n b : Int) (s' : S) : Prop := p.good s k n ∧ p.tells s k n = b ∧ p.next s k n = s'
theorem Pick.mk {S : Type} {p : Picks S} {s : S} {k n : Int} (h : p.good s k n) : Pick p s k n (p.tells s k n) (p.next s k n) := ⟨h, rfl, rfl⟩

/-- While a frame's numbers are picked: its own variable is the block behind all that was. -/
structure Mid {S : Type} (p : Picks S) (w0 : World) (T : TypeId) (cs : Array Value) (s : S) (w : World) : Prop where
  inv : p.inv s w
  type : frameType T
  holds : Holds w w0.heap.size T cs
  keeps : KeepsFrames w0 w
  old : p.base ≤ w0.heap.size
  plain : noByte cs

section
variable {S : Type} {p : Picks S} {w0 w : World} {T : TypeId} {cs : Array Value} {s s' : S} {k n b : Int}
theorem Mid.start (hp : p.Right) (ht : frameType T) (hb : noByte cs) (h : p.inv s w0) : Mid p w0 T cs s (w0.alloc (.cells cs T)) :=
  ⟨hp.alloc _ _ _ h, ht, Holds.new _ _ _, ⟨by simp, fun _ _ _ _ h => h.alloc _⟩, hp.size _ _ h, hb⟩
theorem Mid.drew (hp : p.Right) (h : Mid p w0 T cs s w) : Mid p w0 T cs s w.drew := ⟨hp.drew _ _ h.inv, h.type, h.holds, h.keeps, h.old, h.plain⟩
theorem Mid.put (hp : p.Right) (h : Mid p w0 T cs s w) (i : Nat) (u : Value) (hu : notByte u = true := by rfl) : Mid p w0 T (cs.setIfInBounds i u) s (w.setCell ⟨w0.heap.size, i, none⟩ u) :=
  ⟨hp.store _ _ _ _ _ _ _ h.inv h.old h.type h.plain h.holds, h.type, h.holds.put i u, ⟨by simpa [World.setCell] using h.keeps.1, fun g t c ht hh =>
    (h.keeps.2 g t c ht hh).far (by have := hh.lt; omega) u⟩, h.old, h.plain.put i hu⟩
theorem Mid.pick (hp : p.Right) (h : Mid p w0 T cs s w) (hk : Pick p s k n b s') :
    Calls Try.prog p.fn (#[.int .i64 k, .int .i64 n] ++ p.caps) w fun e w' => e = .returned (.int .i64 b) ∧ Mid p w0 T cs s' w' := by
  obtain ⟨h1, rfl, rfl⟩ := hk
  exact (hp.call s k n w h.inv h1).mono fun e w' ⟨he, hi, hf⟩ => ⟨he, hi, h.type, hf.2 _ _ _ h.type h.holds, h.keeps.trans hf, h.old, h.plain⟩
theorem Mid.mark (hp : p.Right) (h : Mid p w0 T cs s w) (hk : Pick p s 3 n b s') (hn : F16 n) (hb : F16 b) :
    Calls Try.prog 49 #[.func (.func p.fn) #[] p.caps, .int .u16 n] w fun e w' => e = .returned (.int .u16 b) ∧ Mid p w0 T cs s' w' := by
  have hc := h.pick hp hk
  obtain ⟨n1, n2⟩ := hn
  obtain ⟨b1, b2⟩ := hb
  have en : ∀ (args : Array Value) (w : World), (callFunc p.fn args).run Try.prog w = .ok (.enter p.fn args) w := hp.enters
  clear h hk hp
  go_enter Try.func49, Try.ntmps49
  go_wp2_with (go_at_fn p.fn; refine hc.mono ?_; rintro e w1 ⟨rfl, hm1⟩)
  go_ret
  exact ⟨rfl, hm1⟩
/-- A frame was answered, and what picked its numbers stands at a state. -/
def Picked (v : Value) (p : Picks S) (s : S) (w : World) (e : Ending) (w' : World) : Prop := e = .returned v ∧ p.inv s w' ∧ KeepsFrames w w'
theorem Mid.done (h : Mid p w0 T cs s w) (v : Value) : Picked v p s w0 (.returned v) w := ⟨rfl, h.inv, h.keeps⟩
end
end Go.Proofs.Ytmmdkafkfjfgnaa

/- A parameter that is a struct by value lies in a block of the call's own (Op.box): it is known whole from the call's begin to its end. Nothing here speaks of one program. -/
namespace Go.Proofs.Ytmmdkafkfjfgnaa
open Go.RowKit

/-- What was boxed as the call began (at block w0.heap.size) lies there still, and nothing older was changed. -/
structure Box (w0 : World) (t : TypeId) (cs : Array Value) (w : World) : Prop where
  holds : Holds w w0.heap.size t cs
  below : Below w0.heap.size w0 w
section
variable {w0 w w' : World} {t : TypeId} {cs : Array Value}
theorem Box.start (w0 : World) (t : TypeId) (cs : Array Value) : Box w0 t cs (w0.alloc (.cells cs t)) := ⟨Holds.new _ _ _, below_alloc _ _⟩
theorem Box.lt (h : Box w0 t cs w) : w0.heap.size < w.heap.size := h.holds.lt
theorem Box.next (h : Box w0 t cs w) (hb : Below w.heap.size w w') : Box w0 t cs w' := ⟨h.holds.below hb h.lt, h.below.trans (hb.mono (Nat.le_of_lt h.lt))⟩
theorem Box.drew (h : Box w0 t cs w) : Box w0 t cs w.drew := h.next (Below.refl _ _).drew
theorem Box.drewN (h : Box w0 t cs w) (n : Nat) : Box w0 t cs (w.drewN n) := h.next (below_drewN (Below.refl _ _) n)
theorem Box.alloc (h : Box w0 t cs w) (o : Obj) : Box w0 t cs (w.alloc o) := h.next (below_alloc _ _)
theorem Box.cells3 {a b c : Value} (h : Box w0 t #[a, b, c] w) : w.cell? ⟨w0.heap.size, 0, none⟩ = some a ∧ w.cell? ⟨w0.heap.size, 1, none⟩ = some b ∧ w.cell? ⟨w0.heap.size, 2, none⟩ = some c ∧ Box w0 t #[a, b, c] w :=
  ⟨h.holds.cell 0, h.holds.cell 1, h.holds.cell 2, h⟩
theorem Box.two {w1 : World} {t' : TypeId} {a b c d e f : Value} (h : Box w0 t #[a, b, c] w ∧ Box w1 t' #[d, e, f] w) :
    w.cell? ⟨w0.heap.size, 0, none⟩ = some a ∧ w.cell? ⟨w0.heap.size, 1, none⟩ = some b ∧ w.cell? ⟨w0.heap.size, 2, none⟩ = some c ∧ w.cell? ⟨w1.heap.size, 0, none⟩ = some d ∧ w.cell? ⟨w1.heap.size, 1, none⟩ = some e ∧ w.cell? ⟨w1.heap.size, 2, none⟩ = some f ∧ Box w0 t #[a, b, c] w ∧ Box w1 t' #[d, e, f] w :=
  ⟨h.1.holds.cell 0, h.1.holds.cell 1, h.1.holds.cell 2, h.2.holds.cell 0, h.2.holds.cell 1, h.2.holds.cell 2, h.1, h.2⟩
end
end Go.Proofs.Ytmmdkafkfjfgnaa

/- Package frame's Good: what picks its numbers (shared: Good of each kind is told by its own picked_..). -/
namespace Go.Proofs.Ytmmdkafkfjfgnaa
open Go.RowKit
set_option linter.unusedVariables false
set_option linter.unusedSimpArgs false

/-- The greatest number that a field may be. -/
def wmost (k : Int) : Int := if k = 1 then 63 else if k = 2 then 63 else if k = 3 then 65535 else if k = 4 then 1125899906842624 else 6
def wokF (k n : Int) : Bool := decide (0 ≤ n) && decide (n ≤ wmost k)
def WKind (k : Int) : Prop := k = 0 ∨ k = 1 ∨ k = 2 ∨ k = 3 ∨ k = 4
theorem wmost_any (k : Int) (w : World) (hk : WKind k) : Calls Try.prog 43 #[.int .i64 k] w fun e w' => e = .returned (.int .i64 (wmost k)) ∧ w = w' := by
  rcases hk with rfl | rfl | rfl | rfl | rfl
  all_goals
    go_enter Try.func43, Try.ntmps43
    go_wp2
    go_ret
    exact ⟨rfl, rfl⟩
/-- What Good's function value leaves of its variable. -/
theorem wpick_any (g : Nat) (k n : Int) (s : Bool) (w : World) (hk : WKind k) (hn : Fits n) (h : Holds w g 4 #[.bool s]) :
    Calls Try.prog 42 #[.int .i64 k, .int .i64 n, .pointer (some ⟨g, 0, none⟩)] w fun e w' => e = .returned (.int .i64 n) ∧ w' = w.setCell ⟨g, 0, none⟩ (.bool (s && wokF k n)) := by
  have c0 := h.cell 0
  have f0 := h.soft 0
  obtain ⟨n1, n2⟩ := hn
  have hm := wmost_any k w hk
  obtain ⟨M, hM⟩ : ∃ M, wmost k = M := ⟨_, rfl⟩
  rw [hM] at hm
  unfold wokF
  simp only [hM]
  clear h hM hk
  cases s
  · go_enter Try.func42, Try.ntmps42
    go_wp2
    go_ret
    exact ⟨rfl, rfl⟩
  by_cases h0 : 0 ≤ n
  · by_cases h1 : n ≤ M
    · have e0 : decide (0 ≤ n) = true := by simpa using h0
      have e1 : decide (n ≤ M) = true := by simpa using h1
      go_enter Try.func42, Try.ntmps42
      go_wp2_with (go_at_call 43; refine hm.mono ?_; rintro e w' ⟨rfl, rfl⟩)
      go_ret
      simp [h0, h1]
    · have e0 : decide (0 ≤ n) = true := by simpa using h0
      have e1 : decide (n ≤ M) = false := by simpa using h1
      go_enter Try.func42, Try.ntmps42
      go_wp2_with (go_at_call 43; refine hm.mono ?_; rintro e w' ⟨rfl, rfl⟩)
      go_ret
      simp [h0, e1]
  · have e0 : decide (0 ≤ n) = false := by simpa using h0
    go_enter Try.func42, Try.ntmps42
    go_wp2
    go_ret
    simp [h0]
/-- A variable of the call's own that holds one value. -/
structure WOne (w0 : World) (g : Nat) (t : TypeId) (v : Value) (w : World) : Prop where
  below : Below w0.heap.size w0 w
  new : w0.heap.size ≤ g
  holds : Holds w g t #[v]
section
variable {w0 w : World} {g : Nat} {t : TypeId} {v : Value}
theorem WOne.drew (h : WOne w0 g t v w) : WOne w0 g t v w.drew := ⟨h.below.drew, h.new, h.holds⟩
theorem WOne.alloc (h : WOne w0 g t v w) (o : Obj) : WOne w0 g t v (w.alloc o) := ⟨h.below.alloc h.below.size o, h.new, h.holds.alloc o⟩
theorem WOne.put (h : WOne w0 g t v w) (u : Value) : WOne w0 g t u (w.setCell ⟨g, 0, none⟩ u) := ⟨h.below.setCell (p := ⟨g, 0, none⟩) h.new u, h.new, by simpa using h.holds.put 0 u⟩
theorem WOne.far (h : WOne w0 g t v w) {b i : Nat} {t' : TypeId} {cs : Array Value} (hb : w0.heap.size ≤ b) (ho : Holds w b t' cs) (hne : t ≠ t') (u : Value) : WOne w0 g t v (w.setCell ⟨b, i, none⟩ u) :=
  ⟨h.below.setCell (p := ⟨b, i, none⟩) hb u, h.new, h.holds.far (h.holds.apart ho hne) u⟩
theorem WOne.start (w0 : World) (t : TypeId) (v : Value) : WOne w0 w0.heap.size t v (w0.alloc (.cells #[v] t)) := ⟨(Below.refl _ _).alloc (Nat.le_refl _) _, Nat.le_refl _, Holds.new _ _ _⟩
theorem wkeeps_put (h : Holds w g t #[v]) (ht : ¬ frameType t) (u : Value) : KeepsFrames w (w.setCell ⟨g, 0, none⟩ u) :=
  ⟨by simp [World.setCell], fun g' t' cs hf hh => hh.far (hh.apart h (fun e => ht (by rw [← e]; exact hf))) u⟩
end
theorem wbool_plain : ¬ frameType 4 := by unfold frameType; decide
theorem wne_frame {t t' : TypeId} (h : ¬ frameType t) (h' : frameType t') : t ≠ t' := fun e => h (by rw [e]; exact h')
/-- Good's function value. -/
def wgoodP (w0 : World) (g : Nat) : Picks Bool where
  fn := 42
  caps := #[.pointer (some ⟨g, 0, none⟩)]
  base := w0.heap.size
  inv s w := WOne w0 g 4 (.bool s) w
  next s k n := s && wokF k n
  tells _ _ n := n
  good _ k n := WKind k ∧ Fits n
theorem wgoodP_right (w0 : World) (g : Nat) : (wgoodP w0 g).Right where
  enters := enters_of Try.func42 (by kernel_rfl) rfl
  call s k n w h hg := (wpick_any g k n s w hg.1 hg.2 h.holds).mono fun e w' ⟨he, hw⟩ => ⟨he, by rw [hw]; exact h.put _, by rw [hw]; exact wkeeps_put h.holds wbool_plain _⟩
  drew s w h := h.drew
  alloc s w o h := h.alloc o
  size s w h := h.below.size
  store s w b i u t cs h hb ht _ hh := h.far hb hh (wne_frame wbool_plain ht) u
theorem wpick {w0 : World} {g : Nat} (s : Bool) (k n : Int) (hk : WKind k) (hn : Fits n) : Pick (wgoodP w0 g) s k n n (s && wokF k n) := ⟨⟨hk, hn⟩, rfl, rfl⟩
theorem fit16 {n : Int} (h : F16 n) : Fits n := by
  obtain ⟨h0, h1⟩ := h
  exact ⟨by omega, by omega⟩
/-- Good, where picked leaves the variable at what the frame's numbers say. -/
theorem wgood_of {T : TypeId} {v : Value} {G : Bool} (w : World) (hne : ∀ W : World, (binOp .neq 106 (.iface T v) .nilIface).run Try.prog W = .ok (.bool true) W)
    (hp : Calls Try.prog 41 #[.iface T v, .func (.func (wgoodP w w.heap.size).fn) #[] (wgoodP w w.heap.size).caps] (w.alloc (.cells #[.bool true] 4)) (Picked (.iface T v) (wgoodP w w.heap.size) G (w.alloc (.cells #[.bool true] 4)))) :
    Calls Try.prog 26 #[.iface T v] w fun e w' => e = .returned (.bool G) ∧ Below w.heap.size w w' := by
  cases G
  all_goals
    go_enter Try.func26, Try.ntmps26
    go_wp2_with (go_at_call 41; refine hp.mono ?_; rintro e w1 ⟨rfl, hi, hk⟩; have c0 := hi.holds.cell 0)
    go_ret
    exact ⟨rfl, hi.below⟩
end Go.Proofs.Ytmmdkafkfjfgnaa

/- A region that draws its order, where some operations load cells, calls follow, and the last operations ('late': each waits for all that were ahead) store into those very cells: the loads may be taken first, since nothing late comes up before them. Nothing here speaks of one program. -/
namespace Go.Proofs.Ytmmdkafkfjfgnaa

section
variable {P : Program} {ops : Array Oper} {Q : Exit → Act → World → Prop} {md : Region.Mode} {S : World → Prop} {late : Nat → Bool}

/-- Whatever order is picked from here on; behind each operation that isn't late S holds. -/
def Turns (P : Program) (md : Region.Mode) (ops : Array Oper) (Q : Exit → Act → World → Prop) (S : World → Prop) (late : Nat → Bool) : Nat → Array Bool → Act → World → Prop
  | 0, listed, a, w => Region.ready md ops listed = [] ∧ Q .normal a w
  | n + 1, listed, a, w =>
    (Region.ready md ops listed = [] → Q .normal a w) ∧
    ∀ i ∈ Region.ready md ops listed, wpOp P ops Q i (fun a' w' => (late i = false → S w') ∧ Turns P md ops Q S late n (listed.setIfInBounds i true) a' w') a w

theorem Turns.any : ∀ {n : Nat} {listed : Array Bool} {a : Act} {w : World}, Turns P md ops Q S late n listed a w → wpAny P md ops Q n listed a w
  | 0, _, _, _, h => h
  | _ + 1, _, _, _, h => ⟨h.1, fun i hi => wpOp_mono (fun _ _ h' => Turns.any h'.2) (h.2 i hi)⟩

/-- Where all that is left is late, nothing is asked of S. -/
theorem Turns.rest : ∀ {n : Nat} {listed : Array Bool} {a : Act} {w : World}, (∀ i, listed.getD i true = false → late i = true) → wpAny P md ops Q n listed a w → Turns P md ops Q S late n listed a w
  | 0, _, _, _, _, h => h
  | _ + 1, listed, _, _, hl, h => ⟨h.1, fun i hi => wpOp_mono (fun _ _ h' => ⟨fun hf => absurd (hl i (mem_ready.1 hi).1) (by rw [hf]; decide), Turns.rest (fun j hj => by
      by_cases hij : i = j
      · subst hij
        exact hl i (mem_ready.1 hi).1
      · rw [getD_set_ne true hij] at hj
        exact hl j hj) h'⟩) (h.2 i hi)⟩

def lateLeft (late : Nat → Bool) (listed : Array Bool) : Bool := (List.range listed.size).all fun i => listed.getD i true || late i
theorem late_done {listed : Array Bool} (h : lateLeft late listed = true) (i : Nat) (hi : listed.getD i true = false) : late i = true := by
  rcases Nat.lt_or_ge i listed.size with hlt | hge
  · have h0 := List.all_eq_true.1 h i (List.mem_range.2 hlt)
    rw [hi] at h0
    simpa using h0
  · simp [Array.getElem?_eq_none hge] at hi
/-- Does j wait for i, itself or through some that have not come up? -/
def linked (md : Region.Mode) (ops : Array Oper) (listed : Array Bool) (i : Nat) : Nat → Nat → Bool
  | 0, j => Region.waitsFor md ops j i
  | d + 1, j => Region.waitsFor md ops j i || (List.range ops.size).any fun k => Region.waitsFor md ops j k && !listed.getD k false && linked md ops listed i d k
/-- Does each late operation wait for this one? -/
def lateWaits (md : Region.Mode) (ops : Array Oper) (late : Nat → Bool) (i : Nat) (listed : Array Bool) : Bool := (List.range ops.size).all fun j => !late j || linked md ops listed i 3 j
theorem waits_not {i j : Nat} {listed : Array Bool} (h : Region.waitsFor md ops j i = true) (hi : listed.getD i false = false) : j ∉ Region.ready md ops listed := fun hj => by
  obtain ⟨_, oj, hoj, hall⟩ := mem_ready.1 hj
  obtain ⟨o', ho', e, he, hb, hon⟩ := Region.waitsFor_spec h
  obtain rfl : o' = oj := Option.some.inj (ho'.symm.trans hoj)
  have h0 := hall e he hb
  rw [hon, hi] at h0
  cases h0
theorem linked_not {i : Nat} {listed : Array Bool} (hi : listed.getD i false = false) : ∀ {d j : Nat}, linked md ops listed i d j = true → j ∉ Region.ready md ops listed
  | 0, _, h => waits_not h hi
  | d + 1, j, h => by
    simp only [linked, Bool.or_eq_true, List.any_eq_true, Bool.and_eq_true, Bool.not_eq_true'] at h
    rcases h with h | ⟨k, _, ⟨h1, h2⟩, _⟩
    · exact waits_not h hi
    · exact waits_not h1 h2
theorem linked_set {i j0 : Nat} {listed : Array Bool} (hi : listed.getD i false = false) (hj : j0 ∈ Region.ready md ops listed) : ∀ {d j : Nat}, linked md ops listed i d j = true → linked md ops (listed.setIfInBounds j0 true) i d j = true
  | 0, _, h => h
  | d + 1, j, h => by
    simp only [linked, Bool.or_eq_true, List.any_eq_true, Bool.and_eq_true, Bool.not_eq_true'] at h ⊢
    refine h.imp id fun ⟨k, hk, ⟨h1, h2⟩, h3⟩ => ⟨k, hk, ⟨h1, ?_⟩, linked_set hi hj h3⟩
    have hjk : j0 ≠ k := fun e => linked_not hi h3 (by rw [← e]; exact hj)
    rw [getD_set_ne false hjk]
    exact h2
theorem late_not {i j : Nat} {listed : Array Bool} (hw : lateWaits md ops late i listed = true) (hi : listed.getD i false = false) (hj : j ∈ Region.ready md ops listed) : late j = false := by
  rcases hl : late j with _ | _
  · rfl
  · obtain ⟨_, oj, hoj, _⟩ := mem_ready.1 hj
    have h0 := List.all_eq_true.1 hw j (List.mem_range.2 (Array.getElem?_eq_some_iff.1 hoj).1)
    rw [hl] at h0
    exact absurd hj (linked_not hi (by simpa using h0))
theorem late_set {i j : Nat} {listed : Array Bool} (hw : lateWaits md ops late i listed = true) (hi : listed.getD i false = false) (hj : j ∈ Region.ready md ops listed) : lateWaits md ops late i (listed.setIfInBounds j true) = true := by
  refine List.all_eq_true.2 fun l hl => ?_
  have h0 := List.all_eq_true.1 hw l hl
  simp only [Bool.or_eq_true] at h0 ⊢
  exact h0.imp id (linked_set hi hj)

theorem Turns.first {i : Nat} {oi : Oper} {v : Value} (hi : ops[i]? = some oi) (hs : Region.noSelect ops = true) (hQ : ∀ c a w, Q (.panic c) (a.put oi.dst v) w → Q (.panic c) a w) :
    ∀ (n : Nat) (listed : Array Bool) (a : Act) (w : World), (∀ j oj, ops[j]? = some oj → j ≠ i → listed.getD j true = false → (∀ e ∈ oj.after, Region.binds md e = true → e.on ≠ i) → oi.apart ops oj = true) →
      lateWaits md ops late i listed = true → i ∈ Region.ready md ops listed → YieldsIf P ops S oi v a → S w → Turns P md ops Q S late n (listed.setIfInBounds i true) (a.put oi.dst v) w → Turns P md ops Q S late (n + 1) listed a w := by
  have hsel := Region.noSelect_spec hs
  have now : ∀ {n : Nat} {listed : Array Bool} {a : Act} {w : World}, YieldsIf P ops S oi v a → S w → Turns P md ops Q S late n (listed.setIfInBounds i true) (a.put oi.dst v) w →
      wpOp P ops Q i (fun a' w' => (late i = false → S w') ∧ Turns P md ops Q S late n (listed.setIfInBounds i true) a' w') a w := fun hy hS H => hy.wpOp hi hS ⟨fun _ => hS, H⟩
  intro n
  induction n with
  | zero =>
    intro listed a w _ _ hr hy hS H
    refine ⟨fun h => (by rw [h] at hr; cases hr), fun j hj => ?_⟩
    by_cases hne : j = i
    · subst hne
      exact now hy hS H
    · have h0 := ready_mono hj hne
      rw [H.1] at h0
      cases h0
  | succ n ih =>
    intro listed a w hfree hw hr hy hS H
    refine ⟨fun h => (by rw [h] at hr; cases hr), fun j hj => ?_⟩
    by_cases hne : j = i
    · subst hne
      exact now hy hS H
    obtain ⟨hun, oj, hoj, hall⟩ := mem_ready.1 hj
    have hni : listed.getD i false = false := getD_both (mem_ready.1 hr).1
    have hno : ∀ e ∈ oj.after, Region.binds md e = true → e.on ≠ i := fun e he hb heq => by
      have h0 := hall e he hb
      rw [heq, hni] at h0
      cases h0
    have h2 := wpOp_putIf hoj (hfree j oj hoj hne hun hno) (fun cs b => hsel i oi cs b hi) (fun cs b => hsel j oj cs b hoj) hQ hy (H.2 j (ready_mono hj hne))
    refine wpOp_mono (fun a' w' h3 => ⟨h3.2.1, ih _ a' w' (fun k ok hk hki hk' hkn => hfree k ok hk hki ?_ hkn) (late_set hw hni hj) (ready_mono hr (Ne.symm hne)) h3.1 (h3.2.1 (late_not hw hni hj)) ?_⟩) h2
    · by_cases hjk : j = k
      · rw [← hjk]
        exact hun
      · rwa [getD_set_ne true hjk] at hk'
    · rw [Array.setIfInBounds_comm _ _ hne]
      exact h3.2.2

/-- Number i is taken first: in every world that meets S it yields v. -/
theorem Turns.take {n : Nat} {listed : Array Bool} {a : Act} {w : World} (hS : S w) (i : Nat) (v : Value) {oi : Oper} (hi : ops[i]? = some oi) (hs : Region.noSelect ops = true) (hf : Region.free md ops listed i = true)
    (hr : (Region.ready md ops listed).contains i = true) (hw : lateWaits md ops late i listed = true) (hQ : ∀ c a w, Q (.panic c) (a.put oi.dst v) w → Q (.panic c) a w) (hwant : Region.wanted oi (yielded ops a.tmps) = true)
    (hy : ∀ w, S w → (execOp a.eval oi).run P w = .ok (.value v) w) (h : Turns P md ops Q S late n (listed.setIfInBounds i true) (a.put oi.dst v) w) : Turns P md ops Q S late (n + 1) listed a w :=
  Turns.first hi hs hQ n listed a w (Region.free_spec hi hf) hw (by simpa using hr) (.inl ⟨hwant, hy⟩) hS h

/-- Number i, which its guard shuts out, is passed over first. -/
theorem Turns.skip {n : Nat} {listed : Array Bool} {a : Act} {w : World} (hS : S w) (i : Nat) {oi : Oper} (hi : ops[i]? = some oi) (hs : Region.noSelect ops = true) (hf : Region.free md ops listed i = true)
    (hr : (Region.ready md ops listed).contains i = true) (hw : lateWaits md ops late i listed = true) (hQ : ∀ c a w, Q (.panic c) (a.put oi.dst undef) w → Q (.panic c) a w) (hwant : Region.wanted oi (yielded ops a.tmps) = false)
    (h : Turns P md ops Q S late n (listed.setIfInBounds i true) (a.put oi.dst undef) w) : Turns P md ops Q S late (n + 1) listed a w :=
  Turns.first hi hs hQ n listed a w (Region.free_spec hi hf) hw (by simpa using hr) (.inr ⟨hwant, rfl⟩) hS h

/-- Number i alone may come up: it is carried out, and S is shown behind it. -/
theorem Turns.next {n : Nat} {listed : Array Bool} {a : Act} {w : World} (i : Nat) {oi : Oper} (hi : ops[i]? = some oi) (hr : Region.ready md ops listed = [i]) (hwant : Region.wanted oi (yielded ops a.tmps) = true)
    (h : ∀ K : Act → World → Prop, Shut (∀ a' w', S w' → Turns P md ops Q S late n (listed.setIfInBounds i true) a' w' → K a' w') → oi.wp P a w K Q) : Turns P md ops Q S late (n + 1) listed a w :=
  ⟨fun h0 => (by rw [hr] at h0; cases h0), fun j hj => by
    rw [hr] at hj
    obtain rfl : j = i := by simpa using hj
    exact wpOp_step hi fun K hK => by
      rw [if_pos hwant]
      exact h K fun a' w' hS hT => hK _ _ ⟨fun _ => hS, hT⟩⟩

/-- Two may come up: either is carried out, and S is shown behind it. -/
theorem Turns.either {n : Nat} {listed : Array Bool} {a : Act} {w : World} (i j : Nat) {oi oj : Oper} (hi : ops[i]? = some oi) (hj : ops[j]? = some oj) (hr : Region.ready md ops listed = [i, j])
    (hwi : Region.wanted oi (yielded ops a.tmps) = true) (hwj : Region.wanted oj (yielded ops a.tmps) = true)
    (h1 : ∀ K : Act → World → Prop, Shut (∀ a' w', S w' → Turns P md ops Q S late n (listed.setIfInBounds i true) a' w' → K a' w') → oi.wp P a w K Q)
    (h2 : ∀ K : Act → World → Prop, Shut (∀ a' w', S w' → Turns P md ops Q S late n (listed.setIfInBounds j true) a' w' → K a' w') → oj.wp P a w K Q) : Turns P md ops Q S late (n + 1) listed a w :=
  ⟨fun h0 => (by rw [hr] at h0; cases h0), fun k hk => by
    rw [hr] at hk
    have hk' : k = i ∨ k = j := by simpa using hk
    rcases hk' with rfl | rfl
    · exact wpOp_step hi fun K hK => by
        rw [if_pos hwi]
        exact h1 K fun a' w' hS hT => hK _ _ ⟨fun _ => hS, hT⟩
    · exact wpOp_step hj fun K hK => by
        rw [if_pos hwj]
        exact h2 K fun a' w' hS hT => hK _ _ ⟨fun _ => hS, hT⟩⟩

/-- Number i alone may come up, where all that is left is late. -/
theorem any_next {n : Nat} {listed : Array Bool} {a : Act} {w : World} (i : Nat) {oi : Oper} (hi : ops[i]? = some oi) (hr : Region.ready md ops listed = [i]) (hwant : Region.wanted oi (yielded ops a.tmps) = true)
    (h : ∀ K : Act → World → Prop, Shut (∀ a' w', wpAny P md ops Q n (listed.setIfInBounds i true) a' w' → K a' w') → oi.wp P a w K Q) : wpAny P md ops Q (n + 1) listed a w :=
  ⟨fun h0 => (by rw [hr] at h0; cases h0), fun j hj => by
    rw [hr] at hj
    obtain rfl : j = i := by simpa using hj
    exact wpOp_step hi fun K hK => by
      rw [if_pos hwant]
      exact h K hK⟩
/-- An operation that no world turns is taken first, where all that is left is late. -/
theorem any_take {n : Nat} {listed : Array Bool} {a : Act} {w : World} (i : Nat) (v : Value) {oi : Oper} (hi : ops[i]? = some oi) (hs : Region.noSelect ops = true) (hf : Region.free md ops listed i = true)
    (hr : (Region.ready md ops listed).contains i = true) (hQ : ∀ c a w, Q (.panic c) (a.put oi.dst v) w → Q (.panic c) a w) (hwant : Region.wanted oi (yielded ops a.tmps) = true)
    (hy : ∀ w, (execOp a.eval oi).run P w = .ok (.value v) w) (h : wpAny P md ops Q n (listed.setIfInBounds i true) (a.put oi.dst v) w) : wpAny P md ops Q (n + 1) listed a w :=
  wpAny_take hi hs hf hr hQ (.inl ⟨hwant, hy⟩) h

/-- What is left comes up in the text's order. -/
theorem any_tail {n : Nat} {listed : Array Bool} {a : Act} {w : World} (k : Nat) (hn : n = ops.size - k) (hB : Region.seqB md ops (ops.size - k) k listed = true) (h : wpList P ops Q (ops.toList.drop k) a w) : wpAny P md ops Q n listed a w := by
  have hl : (ops.toList.drop k).length = ops.size - k := by simp
  rw [hn, ← hl]
  exact wpAny_of_seq _ k listed a w (fun j => by simp) (by rw [hl]; exact hB) h

/-- The beginning, at a region that draws its order. -/
theorem region_turns {id : Nat} {a : Act} {w : World} (S : World → Prop) (late : Nat → Bool) (hm : P.follows .mixedOrders = true) (hS : S w.drew)
    (h : S w.drew → Turns P .any ops Q S late ops.size (Array.replicate ops.size false) a w.drew) : (Code.region id ops true).wp P Q a w :=
  wp_region_any hm (h hS).any
end
end Go.Proofs.Ytmmdkafkfjfgnaa

/- What picked answers of a frame. (Written by wip/tools/mkframe.py.) -/
namespace Go.Proofs.Ytmmdkafkfjfgnaa
open Go.RowKit
set_option linter.unusedSimpArgs false
attribute [local go_sem ↓] Go.wp_at_zero Go.wp_at_succ
theorem not_anchor_sync (W : World) (v : Value) : (Instr.typeAssert (.iface 31 v) 106 119 true).run Try.prog W = .ok (.tuple #[.agg #[.int .i64 0, .int .i64 0, .int .u16 0, .int .u16 0, .int .i64 0, .int .i64 0], .bool false]) W := by kernel_rfl
theorem not_anchor_find (W : World) (v : Value) : (Instr.typeAssert (.iface 31 v) 106 121 true).run Try.prog W = .ok (.tuple #[.agg #[.int .i64 0, .int .i64 0], .bool false]) W := by kernel_rfl
theorem not_anchor_want (W : World) (v : Value) : (Instr.typeAssert (.iface 31 v) 106 123 true).run Try.prog W = .ok (.tuple #[.agg #[.int .i64 0], .bool false]) W := by kernel_rfl
theorem not_anchor_pulse (W : World) (v : Value) : (Instr.typeAssert (.iface 31 v) 106 125 true).run Try.prog W = .ok (.tuple #[.agg #[.int .i64 0, .int .i64 0, .int .i64 0], .bool false]) W := by kernel_rfl
theorem not_anchor_reply (W : World) (v : Value) : (Instr.typeAssert (.iface 31 v) 106 127 true).run Try.prog W = .ok (.tuple #[.agg #[.int .i64 0, .int .i64 0, .int .i64 0, .int .i64 0, .int .i64 0, .int .i64 0, .int .u16 0, .int .i64 0], .bool false]) W := by kernel_rfl
theorem is_anchor (W : World) (v : Value) : (Instr.typeAssert (.iface 31 v) 106 31 true).run Try.prog W = .ok (.tuple #[v, .bool true]) W := by kernel_rfl
set_option maxHeartbeats 4000000 in
set_option maxRecDepth 100000 in
theorem picked_anchor {S : Type} (p : Picks S) (hp : p.Right) (s0 s1 s2 s3 s4 s5 s6 s7 : S) (a0 a1 a2 a3 a4 a5 b0 b1 b2 b3 b4 b5 bk : Int) (w : World) (h : p.inv s0 w) (q : Pick p s0 0 6 bk s1) (q0 : Pick p s1 1 a0 b0 s2) (q1 : Pick p s2 3 a1 b1 s3) (u1 : F16 a1) (v1 : F16 b1) (q2 : Pick p s3 1 a2 b2 s4) (q3 : Pick p s4 3 a3 b3 s5) (u3 : F16 a3) (v3 : F16 b3) (q4 : Pick p s5 4 a4 b4 s6) (q5 : Pick p s6 4 a5 b5 s7) :
    Calls Try.prog 41 #[.iface 31 (.agg #[.int .i64 a0, .int .u16 a1, .int .i64 a2, .int .u16 a3, .int .i64 a4, .int .i64 a5]), .func (.func p.fn) #[] p.caps] w (Picked (.iface 31 (.agg #[.int .i64 b0, .int .u16 b1, .int .i64 b2, .int .u16 b3, .int .i64 b4, .int .i64 b5])) p s7 w) := by
  have en : ∀ (args : Array Value) (w : World), (callFunc p.fn args).run Try.prog w = .ok (.enter p.fn args) w := hp.enters
  have t0 := not_anchor_sync
  have t1 := not_anchor_find
  have t2 := not_anchor_want
  have t3 := not_anchor_pulse
  have t4 := not_anchor_reply
  have t5 := is_anchor
  have hm := Mid.start (T := 31) (cs := #[.int .i64 a0, .int .u16 a1, .int .i64 a2, .int .u16 a3, .int .i64 a4, .int .i64 a5]) hp (by unfold frameType; decide) (noByte_of rfl) h
  have HP := Lib.hid hp
  clear hp h
  go_enter Try.func41, Try.ntmps41
  go_wp2_with (go_at_fn p.fn; (with_reducible refine (hm.pick HP.out q).mono ?_); rintro e w1 ⟨rfl, m1⟩)
  have d0 := m1.drew HP.out
  refine region_turns (fun w' => w'.cell? ⟨w.heap.size, 0, none⟩ = some (.int .i64 a0) ∧ w'.cell? ⟨w.heap.size, 1, none⟩ = some (.int .u16 a1)) (fun j => decide (9 ≤ j)) (by kernel_rfl) ⟨d0.holds.cell 0, d0.holds.cell 1⟩ (fun hS => ?_)
  refine Turns.take hS 0 (.func (.func p.fn) #[] p.caps) rfl (by kernel_rfl) (by kernel_rfl) (by kernel_rfl) (by kernel_rfl) (fun _ _ _ h => h) (by rfl) (fun w' hS' => by go_simp) ?_
  simp only [Act.put, List.getElem_toArray, List.getElem_cons_succ, List.getElem_cons_zero, List.setIfInBounds_toArray, List.set_cons_zero, List.set_cons_succ]
  refine Turns.take hS 1 (.pointer (some ⟨w.heap.size, 0, none⟩)) rfl (by kernel_rfl) (by kernel_rfl) (by kernel_rfl) (by kernel_rfl) (fun _ _ _ h => h) (by rfl) (fun w' hS' => by go_simp) ?_
  simp only [Act.put, List.getElem_toArray, List.getElem_cons_succ, List.getElem_cons_zero, List.setIfInBounds_toArray, List.set_cons_zero, List.set_cons_succ]
  refine Turns.take hS 2 (.int .i64 a0) rfl (by kernel_rfl) (by kernel_rfl) (by kernel_rfl) (by kernel_rfl) (fun _ _ _ h => h) (by rfl) (fun w' hS' => by (try dsimp only at hS'); go_split_ands; go_simp) ?_
  simp only [Act.put, List.getElem_toArray, List.getElem_cons_succ, List.getElem_cons_zero, List.setIfInBounds_toArray, List.set_cons_zero, List.set_cons_succ]
  refine Turns.take hS 4 (.func (.func p.fn) #[] p.caps) rfl (by kernel_rfl) (by kernel_rfl) (by kernel_rfl) (by kernel_rfl) (fun _ _ _ h => h) (by rfl) (fun w' hS' => by go_simp) ?_
  simp only [Act.put, List.getElem_toArray, List.getElem_cons_succ, List.getElem_cons_zero, List.setIfInBounds_toArray, List.set_cons_zero, List.set_cons_succ]
  refine Turns.take hS 5 (.pointer (some ⟨w.heap.size, 1, none⟩)) rfl (by kernel_rfl) (by kernel_rfl) (by kernel_rfl) (by kernel_rfl) (fun _ _ _ h => h) (by rfl) (fun w' hS' => by go_simp) ?_
  simp only [Act.put, List.getElem_toArray, List.getElem_cons_succ, List.getElem_cons_zero, List.setIfInBounds_toArray, List.set_cons_zero, List.set_cons_succ]
  refine Turns.take hS 6 (.int .u16 a1) rfl (by kernel_rfl) (by kernel_rfl) (by kernel_rfl) (by kernel_rfl) (fun _ _ _ h => h) (by rfl) (fun w' hS' => by (try dsimp only at hS'); go_split_ands; go_simp) ?_
  simp only [Act.put, List.getElem_toArray, List.getElem_cons_succ, List.getElem_cons_zero, List.setIfInBounds_toArray, List.set_cons_zero, List.set_cons_succ]
  refine Turns.next 3 rfl (by kernel_rfl) (by rfl) (fun K hK => ?_)
  go_simp
  refine (d0.pick HP.out q0).mono ?_
  rintro e w2 ⟨rfl, m2⟩
  have hS2 : w2.cell? ⟨w.heap.size, 0, none⟩ = some (.int .i64 a0) ∧ w2.cell? ⟨w.heap.size, 1, none⟩ = some (.int .u16 a1) := ⟨m2.holds.cell 0, m2.holds.cell 1⟩
  refine hK.out _ _ hS2 ?_
  clear hK K
  refine Turns.take hS2 8 (.pointer (some ⟨w.heap.size, 0, none⟩)) rfl (by kernel_rfl) (by kernel_rfl) (by kernel_rfl) (by kernel_rfl) (fun _ _ _ h => h) (by rfl) (fun w' hS' => by go_simp) ?_
  simp only [Act.put, List.getElem_toArray, List.getElem_cons_succ, List.getElem_cons_zero, List.setIfInBounds_toArray, List.set_cons_zero, List.set_cons_succ]
  refine Turns.next 7 rfl (by kernel_rfl) (by rfl) (fun K hK => ?_)
  go_simp
  refine (Mid.mark HP.out m2 q1 u1 v1).mono ?_
  rintro e w3 ⟨rfl, m3⟩
  have hS3 : w3.cell? ⟨w.heap.size, 0, none⟩ = some (.int .i64 a0) ∧ w3.cell? ⟨w.heap.size, 1, none⟩ = some (.int .u16 a1) := ⟨m3.holds.cell 0, m3.holds.cell 1⟩
  refine hK.out _ _ hS3 ?_
  clear hK K
  refine Turns.rest (late_done (by kernel_rfl)) ?_
  refine any_tail 9 (by rfl) (by kernel_rfl) ?_
  simp only [List.drop_succ_cons, List.drop_zero]
  have e0 := m3.holds.cell 0
  have e1 := m3.holds.cell 1
  have f0 := m3.holds.soft 0
  have f1 := m3.holds.soft 1
  go_wp2
  have m4 := ((m3.put HP.out 0 (.int .i64 b0)).put HP.out 1 (.int .u16 b1))
  revert m4
  generalize ((w3.setCell ⟨w.heap.size, 0, none⟩ (.int .i64 b0)).setCell ⟨w.heap.size, 1, none⟩ (.int .u16 b1)) = w4
  intro m4
  clear e0 e1 f0 f1 d0
  have d1 := m4.drew HP.out
  refine region_turns (fun w' => w'.cell? ⟨w.heap.size, 2, none⟩ = some (.int .i64 a2) ∧ w'.cell? ⟨w.heap.size, 3, none⟩ = some (.int .u16 a3)) (fun j => decide (9 ≤ j)) (by kernel_rfl) ⟨d1.holds.cell 2, d1.holds.cell 3⟩ (fun hS => ?_)
  refine Turns.take hS 0 (.func (.func p.fn) #[] p.caps) rfl (by kernel_rfl) (by kernel_rfl) (by kernel_rfl) (by kernel_rfl) (fun _ _ _ h => h) (by rfl) (fun w' hS' => by go_simp) ?_
  simp only [Act.put, List.getElem_toArray, List.getElem_cons_succ, List.getElem_cons_zero, List.setIfInBounds_toArray, List.set_cons_zero, List.set_cons_succ]
  refine Turns.take hS 1 (.pointer (some ⟨w.heap.size, 2, none⟩)) rfl (by kernel_rfl) (by kernel_rfl) (by kernel_rfl) (by kernel_rfl) (fun _ _ _ h => h) (by rfl) (fun w' hS' => by go_simp) ?_
  simp only [Act.put, List.getElem_toArray, List.getElem_cons_succ, List.getElem_cons_zero, List.setIfInBounds_toArray, List.set_cons_zero, List.set_cons_succ]
  refine Turns.take hS 2 (.int .i64 a2) rfl (by kernel_rfl) (by kernel_rfl) (by kernel_rfl) (by kernel_rfl) (fun _ _ _ h => h) (by rfl) (fun w' hS' => by (try dsimp only at hS'); go_split_ands; go_simp) ?_
  simp only [Act.put, List.getElem_toArray, List.getElem_cons_succ, List.getElem_cons_zero, List.setIfInBounds_toArray, List.set_cons_zero, List.set_cons_succ]
  refine Turns.take hS 4 (.func (.func p.fn) #[] p.caps) rfl (by kernel_rfl) (by kernel_rfl) (by kernel_rfl) (by kernel_rfl) (fun _ _ _ h => h) (by rfl) (fun w' hS' => by go_simp) ?_
  simp only [Act.put, List.getElem_toArray, List.getElem_cons_succ, List.getElem_cons_zero, List.setIfInBounds_toArray, List.set_cons_zero, List.set_cons_succ]
  refine Turns.take hS 5 (.pointer (some ⟨w.heap.size, 3, none⟩)) rfl (by kernel_rfl) (by kernel_rfl) (by kernel_rfl) (by kernel_rfl) (fun _ _ _ h => h) (by rfl) (fun w' hS' => by go_simp) ?_
  simp only [Act.put, List.getElem_toArray, List.getElem_cons_succ, List.getElem_cons_zero, List.setIfInBounds_toArray, List.set_cons_zero, List.set_cons_succ]
  refine Turns.take hS 6 (.int .u16 a3) rfl (by kernel_rfl) (by kernel_rfl) (by kernel_rfl) (by kernel_rfl) (fun _ _ _ h => h) (by rfl) (fun w' hS' => by (try dsimp only at hS'); go_split_ands; go_simp) ?_
  simp only [Act.put, List.getElem_toArray, List.getElem_cons_succ, List.getElem_cons_zero, List.setIfInBounds_toArray, List.set_cons_zero, List.set_cons_succ]
  refine Turns.next 3 rfl (by kernel_rfl) (by rfl) (fun K hK => ?_)
  go_simp
  refine (d1.pick HP.out q2).mono ?_
  rintro e w5 ⟨rfl, m5⟩
  have hS5 : w5.cell? ⟨w.heap.size, 2, none⟩ = some (.int .i64 a2) ∧ w5.cell? ⟨w.heap.size, 3, none⟩ = some (.int .u16 a3) := ⟨m5.holds.cell 2, m5.holds.cell 3⟩
  refine hK.out _ _ hS5 ?_
  clear hK K
  refine Turns.take hS5 8 (.pointer (some ⟨w.heap.size, 2, none⟩)) rfl (by kernel_rfl) (by kernel_rfl) (by kernel_rfl) (by kernel_rfl) (fun _ _ _ h => h) (by rfl) (fun w' hS' => by go_simp) ?_
  simp only [Act.put, List.getElem_toArray, List.getElem_cons_succ, List.getElem_cons_zero, List.setIfInBounds_toArray, List.set_cons_zero, List.set_cons_succ]
  refine Turns.next 7 rfl (by kernel_rfl) (by rfl) (fun K hK => ?_)
  go_simp
  refine (Mid.mark HP.out m5 q3 u3 v3).mono ?_
  rintro e w6 ⟨rfl, m6⟩
  have hS6 : w6.cell? ⟨w.heap.size, 2, none⟩ = some (.int .i64 a2) ∧ w6.cell? ⟨w.heap.size, 3, none⟩ = some (.int .u16 a3) := ⟨m6.holds.cell 2, m6.holds.cell 3⟩
  refine hK.out _ _ hS6 ?_
  clear hK K
  refine Turns.rest (late_done (by kernel_rfl)) ?_
  refine any_tail 9 (by rfl) (by kernel_rfl) ?_
  simp only [List.drop_succ_cons, List.drop_zero]
  have e2 := m6.holds.cell 2
  have e3 := m6.holds.cell 3
  have f2 := m6.holds.soft 2
  have f3 := m6.holds.soft 3
  go_wp2
  have m7 := ((m6.put HP.out 2 (.int .i64 b2)).put HP.out 3 (.int .u16 b3))
  revert m7
  generalize ((w6.setCell ⟨w.heap.size, 2, none⟩ (.int .i64 b2)).setCell ⟨w.heap.size, 3, none⟩ (.int .u16 b3)) = w7
  intro m7
  clear e2 e3 f2 f3 d1
  have d2 := m7.drew HP.out
  refine region_turns (fun w' => w'.cell? ⟨w.heap.size, 4, none⟩ = some (.int .i64 a4) ∧ w'.cell? ⟨w.heap.size, 5, none⟩ = some (.int .i64 a5)) (fun j => decide (9 ≤ j)) (by kernel_rfl) ⟨d2.holds.cell 4, d2.holds.cell 5⟩ (fun hS => ?_)
  refine Turns.take hS 0 (.func (.func p.fn) #[] p.caps) rfl (by kernel_rfl) (by kernel_rfl) (by kernel_rfl) (by kernel_rfl) (fun _ _ _ h => h) (by rfl) (fun w' hS' => by go_simp) ?_
  simp only [Act.put, List.getElem_toArray, List.getElem_cons_succ, List.getElem_cons_zero, List.setIfInBounds_toArray, List.set_cons_zero, List.set_cons_succ]
  refine Turns.take hS 1 (.pointer (some ⟨w.heap.size, 4, none⟩)) rfl (by kernel_rfl) (by kernel_rfl) (by kernel_rfl) (by kernel_rfl) (fun _ _ _ h => h) (by rfl) (fun w' hS' => by go_simp) ?_
  simp only [Act.put, List.getElem_toArray, List.getElem_cons_succ, List.getElem_cons_zero, List.setIfInBounds_toArray, List.set_cons_zero, List.set_cons_succ]
  refine Turns.take hS 2 (.int .i64 a4) rfl (by kernel_rfl) (by kernel_rfl) (by kernel_rfl) (by kernel_rfl) (fun _ _ _ h => h) (by rfl) (fun w' hS' => by (try dsimp only at hS'); go_split_ands; go_simp) ?_
  simp only [Act.put, List.getElem_toArray, List.getElem_cons_succ, List.getElem_cons_zero, List.setIfInBounds_toArray, List.set_cons_zero, List.set_cons_succ]
  refine Turns.take hS 4 (.func (.func p.fn) #[] p.caps) rfl (by kernel_rfl) (by kernel_rfl) (by kernel_rfl) (by kernel_rfl) (fun _ _ _ h => h) (by rfl) (fun w' hS' => by go_simp) ?_
  simp only [Act.put, List.getElem_toArray, List.getElem_cons_succ, List.getElem_cons_zero, List.setIfInBounds_toArray, List.set_cons_zero, List.set_cons_succ]
  refine Turns.take hS 5 (.pointer (some ⟨w.heap.size, 5, none⟩)) rfl (by kernel_rfl) (by kernel_rfl) (by kernel_rfl) (by kernel_rfl) (fun _ _ _ h => h) (by rfl) (fun w' hS' => by go_simp) ?_
  simp only [Act.put, List.getElem_toArray, List.getElem_cons_succ, List.getElem_cons_zero, List.setIfInBounds_toArray, List.set_cons_zero, List.set_cons_succ]
  refine Turns.take hS 6 (.int .i64 a5) rfl (by kernel_rfl) (by kernel_rfl) (by kernel_rfl) (by kernel_rfl) (fun _ _ _ h => h) (by rfl) (fun w' hS' => by (try dsimp only at hS'); go_split_ands; go_simp) ?_
  simp only [Act.put, List.getElem_toArray, List.getElem_cons_succ, List.getElem_cons_zero, List.setIfInBounds_toArray, List.set_cons_zero, List.set_cons_succ]
  refine Turns.next 3 rfl (by kernel_rfl) (by rfl) (fun K hK => ?_)
  go_simp
  refine (d2.pick HP.out q4).mono ?_
  rintro e w8 ⟨rfl, m8⟩
  have hS8 : w8.cell? ⟨w.heap.size, 4, none⟩ = some (.int .i64 a4) ∧ w8.cell? ⟨w.heap.size, 5, none⟩ = some (.int .i64 a5) := ⟨m8.holds.cell 4, m8.holds.cell 5⟩
  refine hK.out _ _ hS8 ?_
  clear hK K
  refine Turns.take hS8 8 (.pointer (some ⟨w.heap.size, 4, none⟩)) rfl (by kernel_rfl) (by kernel_rfl) (by kernel_rfl) (by kernel_rfl) (fun _ _ _ h => h) (by rfl) (fun w' hS' => by go_simp) ?_
  simp only [Act.put, List.getElem_toArray, List.getElem_cons_succ, List.getElem_cons_zero, List.setIfInBounds_toArray, List.set_cons_zero, List.set_cons_succ]
  refine Turns.next 7 rfl (by kernel_rfl) (by rfl) (fun K hK => ?_)
  go_simp
  refine (m8.pick HP.out q5).mono ?_
  rintro e w9 ⟨rfl, m9⟩
  have hS9 : w9.cell? ⟨w.heap.size, 4, none⟩ = some (.int .i64 a4) ∧ w9.cell? ⟨w.heap.size, 5, none⟩ = some (.int .i64 a5) := ⟨m9.holds.cell 4, m9.holds.cell 5⟩
  refine hK.out _ _ hS9 ?_
  clear hK K
  refine Turns.rest (late_done (by kernel_rfl)) ?_
  refine any_tail 9 (by rfl) (by kernel_rfl) ?_
  simp only [List.drop_succ_cons, List.drop_zero]
  have e0 := m9.holds.cell 0
  have e1 := m9.holds.cell 1
  have e2 := m9.holds.cell 2
  have e3 := m9.holds.cell 3
  have e4 := m9.holds.cell 4
  have e5 := m9.holds.cell 5
  have f4 := m9.holds.soft 4
  have f5 := m9.holds.soft 5
  go_wp2
  go_ret
  exact ((m9.put HP.out 4 (.int .i64 b4)).put HP.out 5 (.int .i64 b5)).done _
end Go.Proofs.Ytmmdkafkfjfgnaa

/- Rows of elements of several cells: copied, cleared, cut, appended to; blocks known whole. Nothing here speaks of one program. -/
namespace Go.Proofs.Ytmmdkafkfjfgnaa
open Go.RowKit

theorem take_splice_le {α : Type} (L : List α) (o : Nat) (cs : List α) (m : Nat) (h : m ≤ o) (ho : o ≤ L.length) : (splice L o cs).take m = L.take m := by
  unfold splice
  rw [List.take_append_of_le_length (by rw [List.length_take]; omega), List.take_take, Nat.min_eq_left h]
theorem take_splice_end {α : Type} (L : List α) (o : Nat) (cs : List α) (m : Nat) (h : m = o + cs.length) (ho : o ≤ L.length) : (splice L o cs).take m = L.take o ++ cs := by
  subst h
  unfold splice
  rw [← List.append_assoc, List.take_append_of_le_length (by simp; omega), List.take_of_length_le (by simp; omega)]
theorem splice_insert {α : Type} (L : List α) (a b m : Nat) (Y v : List α) (hv : a + v.length = b) (hb : b + Y.length ≤ L.length) (hm : m = b + Y.length) : (splice (splice L b Y) a v).take m = L.take a ++ (v ++ Y) := by
  subst hm
  subst hv
  have e1 : (splice L (a + v.length) Y).take a = L.take a := take_splice_le _ _ _ _ (by omega) (by omega)
  have e2 : (splice L (a + v.length) Y).drop (a + v.length) = Y ++ L.drop (a + v.length + Y.length) := by
    unfold splice
    rw [List.drop_append, List.drop_eq_nil_of_le (by rw [List.length_take]; omega), List.nil_append, List.length_take, Nat.min_eq_left (by omega), Nat.sub_self, List.drop_zero]
  generalize hS : splice L (a + v.length) Y = S at e1 e2
  unfold splice
  rw [e1, e2, ← List.append_assoc, ← List.append_assoc, List.take_append_of_le_length (by simp; omega), List.take_of_length_le (by simp; omega), List.append_assoc]
theorem splice_fill {α : Type} (L : List α) (a b m : Nat) (v Y : List α) (hv : a + v.length = b) (hb : b + Y.length ≤ L.length) (hm : m = b + Y.length) : (splice (splice L a v) b Y).take m = L.take a ++ (v ++ Y) := by
  rw [take_splice_end _ _ _ _ hm (by rw [length_splice _ _ _ (by omega)]; omega), take_splice_end _ _ _ _ hv.symm (by omega), List.append_assoc]

section
variable {P : Program} (w : World)
/-- Cells copied into a block that is known whole. -/
theorem run_copyK (dT sT ty elem : TypeId) (k g o dLen dCap : Nat) (ad : Addr) (sLen sCap : Nat) (cur : List Value) (t : TypeId) (cs : List Value)
    (hu : P.underlying dT = some (.slice elem)) (hs : (P.info? elem).map (·.size) = some k) (hg : Holds w g t cur.toArray) (hn : cs.length = Nat.min sLen dLen * k)
    (hsrc : ∀ j v, cs[j]? = some v → w.cell? (ad.add j) = some v) (hfit : o + cs.length ≤ cur.length) (h1 : ∀ v ∈ cs, v.oneCell' = true) :
    (Builtin.copy_ #[dT, sT] ty #[.slice (some ⟨g, o, none⟩) dLen dCap, .slice (some ad) sLen sCap]).run P w = .ok (goInt (Nat.min sLen dLen)) (w.setRow g (splice cur o cs).toArray) := by
  have hl := run_loadCells_list (P := P) w ad cs hsrc
  have hst := run_storeCells_at P g o t cs 0 cur.toArray w hg (by simpa using hfit) h1
  cases hq : P.info? elem with
  | none => simp [hq] at hs
  | some i =>
    have hi : i.size = k := by simpa [hq] using hs
    simp [Builtin.copy_, run_underlying hu, Builtin.lenOf, Builtin.firstCells, sizeOf, typeInfo, hq, hi, ← hn, hl, hst, splice]
/-- A row's cells cleared. -/
theorem run_clearK (t e ty : TypeId) (z : Value) (ht : P.underlying t = some (.slice e)) (hv : ∀ w, (zeroValue e).run P w = .ok z w) (g o n c : Nat) (hn : 0 < n) (cur : List Value) (te : TypeId)
    (hg : Holds w g te cur.toArray) (hfit : o + (Builtin.zeroCells z.cells n).size ≤ cur.length) (h1 : ∀ v ∈ (Builtin.zeroCells z.cells n).toList, v.oneCell' = true) :
    (Builtin.clear_ #[t] ty #[.slice (some ⟨g, o, none⟩) n c]).run P w = .ok (.tuple #[]) (w.setRow g (splice cur o (Builtin.zeroCells z.cells n).toList).toArray) := by
  have hst := run_storeCells_at P g o te (Builtin.zeroCells z.cells n).toList 0 cur.toArray w hg (by simpa using hfit) h1
  obtain ⟨m, rfl⟩ : ∃ m, n = m + 1 := ⟨n - 1, by omega⟩
  simp only [Nat.add_zero] at hst
  simp [Builtin.clear_, run_underlying ht, hv, hst, splice]
theorem zeros_two (x : Value) (n : Nat) : ∀ v ∈ (Builtin.zeroCells #[x, x] n).toList, v = x := by
  intro v hv
  simp [Builtin.zeroCells] at hv
  obtain ⟨a, _, rfl⟩ := hv
  have : a % 2 = 0 ∨ a % 2 = 1 := by omega
  rcases this with h | h <;> simp [h]
end

section
variable {w w' : World} {g : Nat} {t : TypeId} {cs : Array Value}
theorem Holds.row (h : Holds w g t cs) (cs' : Array Value) : Holds (w.setRow g cs') g t cs' := setRow_heap w g cs cs' t (0, 0) h
theorem grown_row (w : World) (g : Nat) (cs : Array Value) : w.grownBy (w.setRow g cs) (some g) := ⟨rfl, rfl, rfl, by simp, fun k _ hk => setRow_other w g k cs (fun e => hk (by rw [e]))⟩
/-- A row that a block holds. -/
theorem own_mk {B k n cap : Nat} {cur xs : List Value} (h : Holds w g t cur.toArray) (hB : B ≤ g) (hn : n ≤ cap) (hc : cap ≤ maxLen) (hl : cur.length = cap * k) (hx : cur.take (n * k) = xs) :
    w.ownsRow B t k (.slice (some ⟨g, 0, none⟩) n cap) n xs :=
  ⟨by rw [← hx, List.length_take, hl, Nat.min_eq_left (Nat.mul_le_mul_right _ hn)], .inr ⟨g, cap, cur.toArray, rfl, hB, h, hn, hc, by simpa using hl, by simpa using hx⟩⟩
theorem own_open {B k n : Nat} {v : Value} {e : TypeId} {xs : List Value} (h : w.ownsRow B e k v n xs) :
    (v = .slice none 0 0 ∧ n = 0 ∧ xs = []) ∨ ∃ g cap, ∃ cur : List Value, v = .slice (some ⟨g, 0, none⟩) n cap ∧ B ≤ g ∧ Holds w g e cur.toArray ∧ n ≤ cap ∧ cap ≤ maxLen ∧ cur.length = cap * k ∧ cur.take (n * k) = xs := by
  rcases h.2 with ⟨rfl, rfl⟩ | ⟨g, cap, cur, rfl, hB, hg, hn, hc, hs, hx⟩
  · exact .inl ⟨rfl, rfl, List.eq_nil_of_length_eq_zero (by simpa using h.1)⟩
  · exact .inr ⟨g, cap, cur.toList, rfl, hB, (show w.heap[g]? = _ by simpa using hg), hn, hc, by simpa using hs, hx⟩
end

section
variable {P : Program}
/-- A builtin whose run is known, as one step of a region that draws its order; and in a walk. -/
theorem step_copy_known {w : World} {ops : Array Oper} {o : Oper} {a : Act} {K : Act → World → Prop} {Q : Exit → Act → World → Prop} {E : Prop}
    (hg : o.guard = none) (d x : Operand) (dT sT : TypeId) (hop : o.op = Op.call { callee := Callee.builtin Builtin.copy, args := #[d, x], argTypes := #[dT, sT] })
    (v u : Value) (hd : a.eval d = v) (hx : a.eval x = u) {v' : Value} {w' : World} (hr : (Builtin.copy_ #[dT, sT] o.type #[v, u]).run P w = .ok v' w') (hK : K (a.put o.dst v') w') :
    if Region.wanted o (yielded ops a.tmps) = true then Oper.wp P o a w K Q else E := by
  have hw : Region.wanted o (yielded ops a.tmps) = true := by simp [Region.wanted, hg]
  rw [if_pos hw]
  unfold Oper.wp
  simp [execOp, hop, resolve, invoke, builtin, hd, hx, hr, Result.andThen]
  exact hK
theorem wpList_copy_known (w : World) {ops : Array Oper} {rest : List Oper} {o : Oper} {a : Act} {Q : Exit → Act → World → Prop} (hgd : o.guard = none) (d s : Operand) (t t' : TypeId)
    (ho : o.op = .call { callee := .builtin .copy, args := #[d, s], argTypes := #[t, t'] }) (v u : Value) (hd : a.eval d = v) (hs : a.eval s = u) {v' : Value} {w' : World}
    (hr : (Builtin.copy_ #[t, t'] o.type #[v, u]).run P w = .ok v' w') (h : wpList P ops Q rest (a.put o.dst v') w') : wpList P ops Q (o :: rest) a w := by
  refine wpList_plain hgd fun K hK => ?_
  unfold Oper.wp execOp
  simp only [ho, resolve, invoke, builtin, Sem.run_bind, Sem.run_pure, Result.andThen_ok, List.map_toArray, List.map_cons, List.map_nil, hd, hs, hr]
  exact hK _ _ h
theorem step_append_known {w : World} {ops : Array Oper} {o : Oper} {a : Act} {K : Act → World → Prop} {Q : Exit → Act → World → Prop} {E : Prop}
    (hg : o.guard = none) (d x : Operand) (dT sT : TypeId) (hop : o.op = Op.call { callee := Callee.builtin Builtin.append, args := #[d, x], argTypes := #[dT, sT] })
    (v u : Value) (hd : a.eval d = v) (hx : a.eval x = u) {v' : Value} {w' : World} (hr : (Builtin.append_ #[dT, sT] o.type #[v, u]).run P w = .ok v' w') (hK : K (a.put o.dst v') w') :
    if Region.wanted o (yielded ops a.tmps) = true then Oper.wp P o a w K Q else E := by
  have hw : Region.wanted o (yielded ops a.tmps) = true := by simp [Region.wanted, hg]
  rw [if_pos hw]
  unfold Oper.wp
  simp [execOp, hop, resolve, invoke, builtin, hd, hx, hr, Result.andThen]
  exact hK
end

section
variable {P : Program} (w : World)
theorem own_shape {w : World} {B k n : Nat} {e : TypeId} {v : Value} {xs : List Value} (h : w.ownsRow B e k v n xs) : ∃ A c, v = .slice A n c := by
  rcases own_open h with ⟨rfl, rfl, _⟩ | ⟨g, cap, cur, rfl, _⟩
  · exact ⟨_, _, rfl⟩
  · exact ⟨_, _, rfl⟩
/-- A row of elements appended to a row of the call's own: in place, or to a new one. -/
theorem run_append_rowK (B : Nat) (t ty e : TypeId) (i : TypeInfo) (z : Value) (k bytes : Nat) (ht : P.underlying t = some (.slice e)) (hi : P.info? e = some i) (hz : i.zero = some z)
    (hsize : i.size = k) (hby : i.bytes = bytes) (hzs : z.cells.size = k) (hk : 0 < k) (v : Value) (n : Nat) (xs : List Value) (hown : w.ownsRow B e k v n xs)
    (ad : Addr) (m c : Nat) (news : List Value) (hl : news.length = m * k) (hnews : ∀ j u, news[j]? = some u → w.cell? (ad.add j) = some u) (h1 : ∀ u ∈ news, u.oneCell' = true)
    (h63 : n + m ≤ maxLen) (hbytes : (n + m) * bytes ≤ 140737488355328) (hbase : B ≤ w.heap.size) :
    ∃ A' c' w', (Builtin.append_ #[t, t] ty #[v, .slice (some ad) m c]).run P w = .ok (.slice A' (n + m) c') w' ∧ w'.ownsRow B e k (.slice A' (n + m) c') (n + m) (xs ++ news) ∧ w.grownBy w' v.ownBlock ∧
      ∀ q, (Value.slice A' (n + m) c').ownBlock = some q → v.ownBlock = some q ∨ w.heap.size ≤ q := by
  rcases own_open hown with ⟨rfl, rfl, rfl⟩ | ⟨g, cap, cur, rfl, hB, hH, hnc, hcm, hcl, hct⟩
  · obtain ⟨v', w', hr, h2, h3, _⟩ := run_append_own (P := P) w w.heap.size t ty e i z k bytes ht hi hz hsize hby hzs hk (.slice none 0 0) 0 [] (World.ownsRow_nil _ _ _ _) ad m c news hl hnews h1 h63 hbytes (Nat.le_refl _)
    obtain ⟨A', c', rfl⟩ := own_shape h2
    refine ⟨A', c', w', hr, ⟨h2.1, ?_⟩, h3, fun q hq => .inr (h2.lt q hq).1⟩
    rcases h2.2 with h | ⟨g, cap, cur, he, hg, r⟩
    · exact .inl h
    · exact .inr ⟨g, cap, cur, he, Nat.le_trans hbase hg, r⟩
  · have hH' : w.heap[g]? = _ := hH
    by_cases hroom : n + m ≤ cap
    · subst hsize
      have hm : n * i.size + news.length ≤ cur.length := by rw [hl, hcl, ← Nat.add_mul]; exact Nat.mul_le_mul_right _ hroom
      have hr := run_append_room (P := P) w t ty e i ht hi g n cap cur.toArray hH' ad m c news hl hnews h1 hroom (by simpa using hm)
      refine ⟨some ⟨g, 0, none⟩, cap, _, hr, ?_, grown_row w g _, fun q hq => .inl hq⟩
      refine own_mk (hH.row _) hB hroom hcm (by simp; omega) ?_
      have e : (n + m) * i.size = (cur.take (n * i.size) ++ news).length := by rw [List.length_append, List.length_take, hl, Nat.min_eq_left (by omega), Nat.add_mul]
      simp only [hct] at *
      rw [e, List.take_left]
    · have hxl : xs.length = n * k := hown.1
      obtain ⟨v', w', hr, h2, h3⟩ := run_append_arg_grows (P := P) w t ty e i z k bytes ht hi hz hsize hby hzs hk ⟨g, 0, none⟩ n cap xs hxl (hown.cells (g := g) rfl) ad m c news hl hnews (by omega) h63 hbytes
      obtain ⟨A', c', rfl⟩ := own_shape h2
      refine ⟨A', c', w', hr, ⟨h2.1, ?_⟩, ⟨h3.os, h3.tape, h3.output, h3.size, fun q hq _ => h3.block q hq (by simp)⟩, fun q hq => .inr (h2.lt q hq).1⟩
      rcases h2.2 with h | ⟨g', cap', cur', he, hg, r⟩
      · exact .inl h
      · exact .inr ⟨g', cap', cur', he, Nat.le_trans hbase hg, r⟩
/-- As run_append_rowK, in a walk. -/
theorem wpList_append_rowK {ops : Array Oper} {rest : List Oper} {o : Oper} {a : Act} {Q : Exit → Act → World → Prop} (hgd : o.guard = none) (s x : Operand) (t : TypeId)
    (ho : o.op = .call { callee := .builtin .append, args := #[s, x], argTypes := #[t, t] })
    (B : Nat) (e : TypeId) (i : TypeInfo) (z : Value) (k bytes : Nat) (ht : P.underlying t = some (.slice e)) (hi : P.info? e = some i) (hz : i.zero = some z)
    (hsize : i.size = k) (hby : i.bytes = bytes) (hzs : z.cells.size = k) (hk : 0 < k) (v : Value) (n : Nat) (xs : List Value) (hs : a.eval s = v) (hown : w.ownsRow B e k v n xs)
    (ad : Addr) (m c : Nat) (news : List Value) (hx : a.eval x = .slice (some ad) m c) (hl : news.length = m * k) (hnews : ∀ j u, news[j]? = some u → w.cell? (ad.add j) = some u) (h1 : ∀ u ∈ news, u.oneCell' = true)
    (h63 : n + m ≤ maxLen) (hbytes : (n + m) * bytes ≤ 140737488355328) (hbase : B ≤ w.heap.size)
    (h : ∀ A' c' w', w'.ownsRow B e k (.slice A' (n + m) c') (n + m) (xs ++ news) → w.grownBy w' v.ownBlock → (∀ q, (Value.slice A' (n + m) c').ownBlock = some q → v.ownBlock = some q ∨ w.heap.size ≤ q) → wpList P ops Q rest (a.put o.dst (.slice A' (n + m) c')) w') :
    wpList P ops Q (o :: rest) a w := by
  refine wpList_plain hgd fun K hK => ?_
  obtain ⟨A', c', w', hrun, h2, h3, h4⟩ := run_append_rowK (P := P) w B t o.type e i z k bytes ht hi hz hsize hby hzs hk v n xs hown ad m c news hl hnews h1 h63 hbytes hbase
  unfold Oper.wp execOp
  simp only [ho, resolve, invoke, builtin, Sem.run_bind, Sem.run_pure, Result.andThen_ok, List.map_toArray, List.map_cons, List.map_nil, hs, hx, hrun]
  exact hK _ _ (h A' c' w' h2 h3 h4)
end
end Go.Proofs.Ytmmdkafkfjfgnaa

/- What a call may change: the blocks of one object. Nothing here speaks of one program. -/
namespace Go.Proofs.Ytmmdkafkfjfgnaa
open Go.RowKit

/-- Of what was there nothing changed but blocks that meet S. -/
structure Chg (S : Nat → Prop) (w w' : World) : Prop where
  os : w'.os = w.os
  tape : w'.tape = w.tape
  output : w'.output = w.output
  size : w.heap.size ≤ w'.heap.size
  block : ∀ k, k < w.heap.size → ¬ S k → w'.heap[k]? = w.heap[k]?

section
variable {S S' : Nat → Prop} {w w' u : World} {B : Nat}
theorem Chg.refl (S : Nat → Prop) (w : World) : Chg S w w := ⟨rfl, rfl, rfl, Nat.le_refl _, fun _ _ _ => rfl⟩
theorem Chg.of_below (S : Nat → Prop) (h : Below w.heap.size w w') : Chg S w w' := ⟨h.os, h.tape, h.output, h.size, fun k hk _ => h.block k hk⟩
theorem Chg.of_grown {row : Option Nat} (h : w.grownBy w' row) (hr : ∀ k, row = some k → S k) : Chg S w w' := ⟨h.os, h.tape, h.output, h.size, fun k hk hn => h.block k hk (fun e => hn (hr k e.symm))⟩
theorem Chg.set (w : World) (g i : Nat) (u : Value) (hS : S g) : Chg S w (w.setCell ⟨g, i, none⟩ u) := Chg.of_grown (grown_set w g i u) (fun k e => by cases e; exact hS)
theorem Chg.trans (h : Chg S w u) (h' : Chg S' u w') (hs : ∀ k, k < w.heap.size → S' k → S k) : Chg S w w' :=
  ⟨h'.os.trans h.os, h'.tape.trans h.tape, h'.output.trans h.output, Nat.le_trans h.size h'.size, fun k hk hn => (h'.block k (Nat.lt_of_lt_of_le hk h.size) (fun e => hn (hs k hk e))).trans (h.block k hk hn)⟩
theorem Chg.mono (h : Chg S w w') (hs : ∀ k, k < w.heap.size → S k → S' k) : Chg S' w w' := ⟨h.os, h.tape, h.output, h.size, fun k hk hn => h.block k hk (fun e => hn (hs k hk e))⟩
theorem Chg.drewN (h : Chg S w w') (n : Nat) : Chg S w (w'.drewN n) := ⟨h.os, h.tape, h.output, h.size, h.block⟩
theorem Below.chg {a : World} (h : Below B a w) (hc : Chg S w w') (hB : B ≤ w.heap.size) (hS : ∀ k, S k → B ≤ k) : Below B a w' :=
  h.trans ⟨hc.os, hc.tape, hc.output, hc.size, fun k hk => hc.block k (by omega) (fun e => by have := hS k e; omega)⟩
theorem Chg.cell (h : Chg S w w') {b o : Nat} (hb : b < w.heap.size) (hn : ¬ S b) : w'.cell? ⟨b, o, none⟩ = w.cell? ⟨b, o, none⟩ := World.cell?_of_block (w := w) (h.block b hb hn)
theorem Chg.frozen (h : Chg S w w') {b o : Nat} (hb : b < w.heap.size) (hn : ¬ S b) : w'.frozen? ⟨b, o, none⟩ = w.frozen? ⟨b, o, none⟩ := World.frozen?_of_block (w := w) (h.block b hb hn)
theorem Holds.chg {g : Nat} {t : TypeId} {cs : Array Value} (h : Holds w g t cs) (hc : Chg S w w') (hn : ¬ S g) : Holds w' g t cs := (hc.block g h.lt hn).trans h
theorem own_chg {e : TypeId} {k n : Nat} {v : Value} {xs : List Value} (h : w.ownsRow B e k v n xs) (hc : Chg S w w') (hn : ∀ q, v.ownBlock = some q → ¬ S q) : w'.ownsRow B e k v n xs := by
  refine ⟨h.1, ?_⟩
  rcases h.2 with h2 | ⟨g, cap, cur, rfl, hB, hg, r⟩
  · exact .inl h2
  · exact .inr ⟨g, cap, cur, rfl, hB, (hc.block g (Array.getElem?_eq_some_iff.1 hg).1 (hn g rfl)).trans hg, r⟩
/-- Two rows of elements of other types lie in two blocks. -/
theorem own_own {B B' : Nat} {e e' : TypeId} {k k' n n' : Nat} {v v' : Value} {xs xs' : List Value} (h : w.ownsRow B e k v n xs) (h' : w.ownsRow B' e' k' v' n' xs') (hne : e ≠ e') {q : Nat} (hq : v.ownBlock = some q) : v'.ownBlock ≠ some q := by
  rcases own_open h with ⟨rfl, _⟩ | ⟨g, cap, cur, rfl, _, hH, _⟩
  · simp [Value.ownBlock] at hq
  · simp [Value.ownBlock] at hq
    subst hq
    exact hH.own_apart h' (Ne.symm hne)
theorem own_up {B B' : Nat} {e : TypeId} {k n : Nat} {v : Value} {xs : List Value} (h : w.ownsRow B e k v n xs) (hB : ∀ q, v.ownBlock = some q → B' ≤ q) : w.ownsRow B' e k v n xs := by
  refine ⟨h.1, ?_⟩
  rcases h.2 with h2 | ⟨g, cap, cur, rfl, _, hg, r⟩
  · exact .inl h2
  · exact .inr ⟨g, cap, cur, rfl, hB g rfl, hg, r⟩
end
end Go.Proofs.Ytmmdkafkfjfgnaa

/- Rows of three integers each, as cells; cells loaded and stored at a place within a block. Nothing here speaks of one program. -/
namespace Go.Proofs.Ytmmdkafkfjfgnaa
open Go.RowKit

abbrev Ent := Int × Int × Int
/-- The cells of entries, one behind the other. -/
def trs (L : List Ent) : List Value := L.flatMap fun e => [.int .i64 e.1, .int .i64 e.2.1, .int .i64 e.2.2]
theorem trs_nil : trs [] = [] := rfl
theorem trs_cons (e : Ent) (L : List Ent) : trs (e :: L) = .int .i64 e.1 :: .int .i64 e.2.1 :: .int .i64 e.2.2 :: trs L := rfl
theorem trs_append (L M : List Ent) : trs (L ++ M) = trs L ++ trs M := by simp [trs]
theorem trs_len : ∀ L : List Ent, (trs L).length = L.length * 3
  | [] => rfl
  | e :: L => by rw [trs_cons]; simp [trs_len L]; omega
theorem trs_take : ∀ (L : List Ent) (i : Nat), (trs L).take (i * 3) = trs (L.take i)
  | [], _ => by simp [trs_nil]
  | _ :: _, 0 => by simp [trs_nil]
  | e :: L, i + 1 => by rw [List.take_succ_cons, trs_cons, trs_cons, ← trs_take L i, show (i + 1) * 3 = i * 3 + 1 + 1 + 1 by omega, List.take_succ_cons, List.take_succ_cons, List.take_succ_cons]
theorem trs_drop : ∀ (L : List Ent) (i : Nat), (trs L).drop (i * 3) = trs (L.drop i)
  | [], _ => by simp [trs_nil]
  | _ :: _, 0 => by simp
  | e :: L, i + 1 => by rw [List.drop_succ_cons, trs_cons, ← trs_drop L i, show (i + 1) * 3 = i * 3 + 1 + 1 + 1 by omega, List.drop_succ_cons, List.drop_succ_cons, List.drop_succ_cons]
theorem trs_get : ∀ (L : List Ent) (i : Nat) (e : Ent), L[i]? = some e → (trs L)[i * 3]? = some (.int .i64 e.1) ∧ (trs L)[i * 3 + 1]? = some (.int .i64 e.2.1) ∧ (trs L)[i * 3 + 2]? = some (.int .i64 e.2.2)
  | x :: L, 0, e, h => by
    simp only [List.getElem?_cons_zero, Option.some.injEq] at h
    subst h
    exact ⟨rfl, rfl, rfl⟩
  | x :: L, i + 1, e, h => by
    have := trs_get L i e (by simpa using h)
    rw [trs_cons, show (i + 1) * 3 = i * 3 + 1 + 1 + 1 by omega]
    simpa using this
theorem trs_set : ∀ (L : List Ent) (i : Nat) (e : Ent), i < L.length → trs (L.set i e) = (((trs L).set (i * 3) (.int .i64 e.1)).set (i * 3 + 1) (.int .i64 e.2.1)).set (i * 3 + 2) (.int .i64 e.2.2)
  | x :: L, 0, e, _ => rfl
  | x :: L, i + 1, e, h => by
    rw [List.set_cons_succ, trs_cons, trs_cons, trs_set L i e (by simpa using h), show (i + 1) * 3 = i * 3 + 1 + 1 + 1 by omega]
    rfl
theorem trs_one (L : List Ent) : ∀ v ∈ trs L, v.oneCell' = true := by
  intro v hv
  simp [trs] at hv
  obtain ⟨a, b, c, _, rfl | rfl | rfl⟩ := hv <;> rfl

theorem own_keep' {w w' : World} {B : Nat} {e : TypeId} {v : Value} {m k : Nat} {xs : List Value} (h : w.ownsRow B e k v m xs) (hb : Below w.heap.size w w') : w'.ownsRow B e k v m xs :=
  own_chg h (Chg.of_below (fun _ => False) hb) (fun _ _ h => h)
section
variable {P : Program}
/-- A struct's cells, loaded from a place within a block. -/
theorem run_loadVar_at (w : World) (g o : Nat) (t ty : TypeId) (cur : Array Value) (cs : List Value) (d : TypeDesc) (hg : Holds w g t cur) (hcs : ∀ j v, cs[j]? = some v → cur[o + j]? = some v)
    (hu : P.underlying ty = some d) (hd : (match d with | .struct _ | .array _ _ => true | _ => false) = true) (hi : (P.info? ty).map (·.size) = some cs.length) :
    (loadVar ty ⟨g, o, none⟩).run P w = .ok (.agg cs.toArray) w := by
  have hl : (loadCells ⟨g, o, none⟩ cs.length).run P w = .ok cs.toArray w :=
    run_loadCells_list (P := P) w ⟨g, o, none⟩ cs (fun j v hv => by
      have hadd : (⟨g, o, none⟩ : Addr).add j = ⟨g, o + j, none⟩ := by unfold Addr.add; split <;> simp_all
      rw [hadd, hg.cell]
      exact hcs j v hv)
  cases hq : P.info? ty with
  | none => simp [hq] at hi
  | some i =>
    have hs : i.size = cs.length := by simpa [hq] using hi
    have hagg : (isAgg ty).run P w = .ok true w := by
      unfold isAgg
      rw [Sem.run_bind, run_underlying hu w]
      cases d <;> simp_all
    simp [loadVar, Sem.run_bind, hagg, sizeOf, typeInfo, hq, hs, hl]
theorem wpList_load_at {ops : Array Oper} {rest : List Oper} {o : Oper} {a : Act} {w : World} {Q : Exit → Act → World → Prop} (hgd : o.guard = none) (ty : TypeId) (x : Operand) (ho : o.op = .load ty x)
    (g off : Nat) (hx : a.eval x = .pointer (some ⟨g, off, none⟩)) (t : TypeId) (cur : Array Value) (cs : List Value) (d : TypeDesc) (hg : Holds w g t cur) (hcs : ∀ j v, cs[j]? = some v → cur[off + j]? = some v)
    (hu : P.underlying ty = some d) (hd : (match d with | .struct _ | .array _ _ => true | _ => false) = true) (hi : (P.info? ty).map (·.size) = some cs.length)
    (h : wpList P ops Q rest (a.put o.dst (.agg cs.toArray)) w) : wpList P ops Q (o :: rest) a w :=
  wpList_plain hgd fun _ hK => by
    unfold Oper.wp execOp
    simp only [ho, hx, Instr.loadAt, Instr.sureAddr, Sem.run_bind, Sem.run_pure, Result.andThen_ok, run_loadVar_at w g off t ty cur cs d hg hcs hu hd hi]
    exact hK _ _ h
/-- A struct's cells, stored at a place within a block. -/
theorem run_storeVar_at (w : World) (g o : Nat) (t ty : TypeId) (cur cells : List Value) (hg : Holds w g t cur.toArray) (hi : (P.info? ty).map (·.size) = some cells.length)
    (ho : o + cells.length ≤ cur.length) (h1 : ∀ v ∈ cells, v.oneCell' = true) :
    (storeVar ty ⟨g, o, none⟩ (.agg cells.toArray)).run P w = .ok () (w.setRow g (splice cur o cells).toArray) := by
  have := run_storeCells_at P g o t cells 0 cur.toArray w hg (by simpa using ho) h1
  cases hq : P.info? ty with
  | none => simp [hq] at hi
  | some i =>
    have hs : cells.length = i.size := by simp [hq] at hi; omega
    simp [storeVar, sizeOf, typeInfo, hq, Value.cells, hs, this, splice]
theorem wpList_store_at {ops : Array Oper} {rest : List Oper} {o : Oper} {a : Act} {w : World} {Q : Exit → Act → World → Prop} (hgd : o.guard = none) (ty : TypeId) (x y : Operand) (ho : o.op = .store ty x y)
    (g off : Nat) (cells : List Value) (hx : a.eval x = .pointer (some ⟨g, off, none⟩)) (hy : a.eval y = .agg cells.toArray)
    (t : TypeId) (cur : List Value) (hg : Holds w g t cur.toArray) (hi : (P.info? ty).map (·.size) = some cells.length)
    (hfit : off + cells.length ≤ cur.length) (h1 : ∀ v ∈ cells, v.oneCell' = true)
    (h : wpList P ops Q rest (a.put o.dst undef) (w.setRow g (splice cur off cells).toArray)) : wpList P ops Q (o :: rest) a w :=
  wpList_plain hgd fun _ hK => by
    unfold Oper.wp execOp
    simp only [ho, hx, hy, Instr.storeAt, Instr.sureAddr, Sem.run_bind, Sem.run_pure, Result.andThen_ok, run_storeVar_at w g off t ty cur cells hg hi hfit h1]
    exact hK _ _ h
/-- As one step of a region that draws its order. -/
theorem wp_store_at {o : Oper} {a : Act} {w : World} {K : Act → World → Prop} {Q : Exit → Act → World → Prop} (ty : TypeId) (x y : Operand) (ho : o.op = .store ty x y)
    (g off : Nat) (cells : List Value) (hx : a.eval x = .pointer (some ⟨g, off, none⟩)) (hy : a.eval y = .agg cells.toArray)
    (t : TypeId) (cur : List Value) (hg : Holds w g t cur.toArray) (hi : (P.info? ty).map (·.size) = some cells.length)
    (hfit : off + cells.length ≤ cur.length) (h1 : ∀ v ∈ cells, v.oneCell' = true)
    (h : K (a.put o.dst undef) (w.setRow g (splice cur off cells).toArray)) : Oper.wp P o a w K Q := by
  unfold Oper.wp execOp
  simp only [ho, hx, hy, Instr.storeAt, Instr.sureAddr, Sem.run_bind, Sem.run_pure, Result.andThen_ok, run_storeVar_at w g off t ty cur cells hg hi hfit h1]
  exact h
end

/-- What a call answers whose first result lies in a cell of its own. -/
theorem results_row_tmp {P : Program} {fn : Func} {p u : Tmp} {ty : TypeId} (h : fn.results = #[.cell p ty, .tmp u]) (tmps : Array Value) (w : World) (g : Nat) (t : TypeId) (cs : List Value) (d : TypeDesc) (v : Value)
    (hp : tmps.getD p undef = .pointer (some ⟨g, 0, none⟩)) (hg : Holds w g t cs.toArray) (hu : P.underlying ty = some d) (hd : (match d with | .struct _ | .array _ _ => true | _ => false) = true) (hi : (P.info? ty).map (·.size) = some cs.length)
    (hv : tmps.getD u undef = v) : (results fn tmps).run P w = .ok (.tuple #[.agg cs.toArray, v]) w := by
  have hp' : tmps[p]?.getD undef = .pointer (some ⟨g, 0, none⟩) := by simpa using hp
  have hv' : tmps[u]?.getD undef = v := by simpa using hv
  have hl := run_loadVar_at (P := P) w g 0 t ty cs.toArray cs d hg (fun j v hv => by simpa using hv) hu hd hi
  simp [results, h, hp', hv', asAddr, hl]

theorem splice_all {α : Type} (cur new : List α) (h : new.length = cur.length) : splice cur 0 new = new := by
  unfold splice
  rw [List.take_zero, List.nil_append, Nat.zero_add, List.drop_eq_nil_of_le (by omega), List.append_nil]
theorem splice_mid {α : Type} (pre mid post new : List α) (i : Nat) (h : i + new.length ≤ mid.length) : splice (pre ++ (mid ++ post)) (pre.length + i) new = pre ++ (splice mid i new ++ post) := by
  unfold splice
  rw [List.take_append, List.take_of_length_le (by omega), show pre.length + i - pre.length = i by omega, List.take_append_of_le_length (by omega), List.append_assoc, List.append_assoc, List.append_assoc]
  congr 2
  rw [List.drop_append, List.drop_eq_nil_of_le (by omega), List.nil_append, show pre.length + i + new.length - pre.length = i + new.length by omega, List.drop_append_of_le_length (by omega)]
theorem set_mid {α : Type} (pre mid post : List α) (i : Nat) (x : α) (h : i < mid.length) : (pre ++ (mid ++ post)).set (pre.length + i) x = pre ++ (mid.set i x ++ post) := by
  rw [List.set_append_right _ _ (by omega), show pre.length + i - pre.length = i by omega, List.set_append_left _ _ h]
theorem get_mid {α : Type} (pre mid post : List α) (i : Nat) (h : i < mid.length) : (pre ++ (mid ++ post))[pre.length + i]? = mid[i]? := by
  rw [List.getElem?_append_right (by omega), show pre.length + i - pre.length = i by omega, List.getElem?_append_left h]

/-- An empty table's cells. -/
def zeroT : List Value := trs (List.replicate 8 (0, 0, 0)) ++ [Value.int .i64 0]
theorem zeroT_one : ∀ v ∈ zeroT, v.oneCell' = true := by decide +kernel
/-- A table's cells (eight places, and how many there are), behind the cells pre and ahead of the cells post. -/
def tcs (pre post : List Value) (K : List Ent) (n : Int) : List Value := pre ++ ((trs K ++ [Value.int .i64 n]) ++ post)
section
variable {pre post : List Value} {K : List Ent} {n : Int} {o : Nat}
theorem tcs_len (hK : K.length = 8) (ho : pre.length = o) : (tcs pre post K n).length = o + 25 + post.length := by
  unfold tcs
  rw [List.length_append, List.length_append, List.length_append, trs_len, hK, ho, List.length_singleton]
  omega
theorem tcs_mid (hK : K.length = 8) : (trs K ++ [Value.int .i64 n]).length = 25 := by rw [List.length_append, trs_len, hK]; rfl
theorem tcs_num (hK : K.length = 8) (ho : pre.length = o) : (tcs pre post K n)[o + 24]? = some (.int .i64 n) := by
  have hm := tcs_mid (n := n) hK
  unfold tcs
  rw [← ho, get_mid _ _ _ _ (by omega), List.getElem?_append_right (by rw [trs_len]; omega), trs_len, hK]
  rfl
theorem tcs_at (hK : K.length = 8) (ho : pre.length = o) {i : Nat} (hi : i < 24) : (tcs pre post K n)[o + i]? = (trs K)[i]? := by
  have hm := tcs_mid (n := n) hK
  unfold tcs
  rw [← ho, get_mid _ _ _ _ (by omega), List.getElem?_append_left (by rw [trs_len]; omega)]
theorem tcs_count (hK : K.length = 8) (ho : pre.length = o) (m : Int) : (tcs pre post K n).toArray.setIfInBounds (o + 24) (.int .i64 m) = (tcs pre post K m).toArray := by
  have hm := tcs_mid (n := n) hK
  unfold tcs
  rw [← ho, List.setIfInBounds_toArray, set_mid _ _ _ _ _ (by omega), List.set_append_right _ _ (by rw [trs_len]; omega), trs_len, hK]
  rfl
theorem tcs_put (hK : K.length = 8) (ho : pre.length = o) {i : Nat} (hi : i < 8) (e : Ent) : splice (tcs pre post K n) (o + i * 3) [.int .i64 e.1, .int .i64 e.2.1, .int .i64 e.2.2] = tcs pre post (K.set i e) n := by
  have hm := tcs_mid (n := n) hK
  unfold tcs
  rw [← ho, splice_mid _ _ _ _ _ (by rw [hm]; simp; omega)]
  congr 2
  have h1 : K.set i e = K.take i ++ e :: K.drop (i + 1) := by rw [List.set_eq_take_append_cons_drop, if_pos (by omega)]
  have hl : i * 3 ≤ (trs K).length := by rw [trs_len, hK]; omega
  rw [h1, trs_append, trs_cons, ← trs_take, ← trs_drop]
  unfold splice
  rw [List.take_append_of_le_length hl, List.drop_append_of_le_length (by rw [trs_len, hK]; simp; omega), show (i + 1) * 3 = i * 3 + 3 by omega]
  simp
theorem tcs_copy (hK : K.length = 8) (ho : pre.length = o) (x : Ent) (hx : K.drop 7 = [x]) : splice (tcs pre post K n) o (trs (K.drop 1)) = tcs pre post (K.drop 1 ++ [x]) n := by
  have hm := tcs_mid (n := n) hK
  have hs := splice_mid pre (trs K ++ [Value.int .i64 n]) post (trs (K.drop 1)) 0 (by rw [hm, trs_len, List.length_drop]; omega)
  rw [Nat.add_zero, ho] at hs
  unfold tcs
  rw [hs]
  congr 2
  unfold splice
  rw [List.take_zero, List.nil_append, trs_append, List.append_assoc]
  congr 1
  have hl : (trs (K.drop 1)).length = 7 * 3 := by rw [trs_len, List.length_drop, hK]
  rw [hl, Nat.zero_add, List.drop_append_of_le_length (by rw [trs_len, hK]; omega), trs_drop, hx]
theorem tcs_zero (hK : K.length = 8) (ho : pre.length = o) (K' : List Ent) (hK' : K'.length = 8) (m : Int) : splice (tcs pre post K n) o (trs K' ++ [Value.int .i64 m]) = tcs pre post K' m := by
  have hm := tcs_mid (n := n) hK
  have hm' := tcs_mid (n := m) hK'
  have hs := splice_mid pre (trs K ++ [Value.int .i64 n]) post (trs K' ++ [Value.int .i64 m]) 0 (by omega)
  rw [Nat.add_zero, ho, splice_all _ _ (by omega)] at hs
  exact hs
end
end Go.Proofs.Ytmmdkafkfjfgnaa

/- While a block's cells are written. Nothing here speaks of one program. -/
namespace Go.Proofs.Ytmmdkafkfjfgnaa
open Go.RowKit
/-- While a block's cells are written: nothing else is. -/
structure Wp (w0 : World) (g : Nat) (t : TypeId) (cs : Array Value) (w : World) : Prop where
  node : Holds w g t cs
  chg : Chg (fun k => k = g) w0 w
section
variable {w0 w w' : World} {g : Nat} {t : TypeId} {cs : Array Value}
theorem Wp.start (h : Holds w0 g t cs) : Wp w0 g t cs w0 := ⟨h, Chg.refl _ _⟩
theorem Wp.put (h : Wp w0 g t cs w) (i : Nat) (u : Value) : Wp w0 g t (cs.setIfInBounds i u) (w.setCell ⟨g, i, none⟩ u) :=
  ⟨h.node.put i u, h.chg.trans (Chg.set (S := fun k => k = g) w g i u rfl) (fun _ _ e => e)⟩
theorem Wp.row (h : Wp w0 g t cs w) (l : List Value) : Wp w0 g t l.toArray (w.setRow g l.toArray) :=
  ⟨h.node.row l.toArray, h.chg.trans (Chg.of_grown (grown_row w g l.toArray) (S := fun k => k = g) (fun k e => by cases e; rfl)) (fun _ _ e => e)⟩
theorem Wp.drewN (h : Wp w0 g t cs w) (n : Nat) : Wp w0 g t cs (w.drewN n) := ⟨h.node.drewN n, h.chg.drewN n⟩
end
theorem Wp.to {w0 w : World} {g : Nat} {t : TypeId} {cs cs' : Array Value} (h : Wp w0 g t cs w) (e : cs = cs') : Wp w0 g t cs' w := e ▸ h
theorem one_ints3 (a b c : Int) : ∀ v ∈ ([.int .i64 a, .int .i64 b, .int .i64 c] : List Value), v.oneCell' = true := by
  intro v hv
  simp only [List.mem_cons, List.not_mem_nil, or_false] at hv
  rcases hv with rfl | rfl | rfl <;> rfl
end Go.Proofs.Ytmmdkafkfjfgnaa

/- Package anchor: how a book lies; Good of an anchor; Has, Drop, of, isTime. -/
namespace Go.Proofs.Ytmmdkafkfjfgnaa
open Go.RowKit
set_option linter.unusedVariables false
set_option linter.unusedSimpArgs false

theorem an_size : (Try.prog.info? 31).map (·.size) = some 6 := by kernel_rfl
theorem bk_size : (Try.prog.info? 33).map (·.size) = some 7 := by kernel_rfl
def an6 (f q r b g t : Int) : List Value := [.int .i64 f, .int .u16 q, .int .i64 r, .int .u16 b, .int .i64 g, .int .i64 t]
def bk7 (s : BS) : List Value := [.int .i64 s.f, .int .u16 s.q, .int .i64 s.r, .int .u16 s.b, .int .i64 s.g, .int .i64 s.t, .bool s.has]
theorem an6_one (f q r b g t : Int) : ∀ v ∈ an6 f q r b g t, v.oneCell' = true := by
  intro v hv
  have h : (an6 f q r b g t).all (fun v => v.oneCell') = true := rfl
  exact List.all_eq_true.1 h v hv
theorem bk7_one (s : BS) : ∀ v ∈ bk7 s, v.oneCell' = true := by
  intro v hv
  have h : (bk7 s).all (fun v => v.oneCell') = true := rfl
  exact List.all_eq_true.1 h v hv
/-- Good, of an anchor. -/
theorem ancB_fold (f q r b g t : Int) : (((((((true && wokF 0 6) && wokF 1 f) && wokF 3 q) && wokF 1 r) && wokF 3 b) && wokF 4 g) && wokF 4 t) = ancB f q r b g t := by
  have e0 : wokF 0 6 = true := by decide
  have k1 : ∀ n, wokF 1 n = in63 n := fun n => rfl
  have k3 : ∀ n, wokF 3 n = in16 n := fun n => rfl
  have k4 : ∀ n, wokF 4 n = in50 n := fun n => rfl
  unfold ancB
  simp only [e0, k1, k3, k4, Bool.true_and, Bool.and_assoc]
theorem agood_any (f q r b g t : Int) (w : World) (ff : Fits f) (hq : F16 q) (fr : Fits r) (hb : F16 b) (fg : Fits g) (ft : Fits t) :
    Calls Try.prog 26 #[.iface 31 (.agg #[.int .i64 f, .int .u16 q, .int .i64 r, .int .u16 b, .int .i64 g, .int .i64 t])] w fun e w' => e = .returned (.bool (ancB f q r b g t)) ∧ Below w.heap.size w w' := by
  have hp := picked_anchor (wgoodP w w.heap.size) (wgoodP_right w w.heap.size) true _ _ _ _ _ _ _ f q r b g t f q r b g t 6 (w.alloc (.cells #[.bool true] 4)) (WOne.start w _ _)
    (wpick _ 0 6 (.inl rfl) ⟨by decide, by decide⟩) (wpick _ 1 f (.inr (.inl rfl)) ff) (wpick _ 3 q (.inr (.inr (.inr (.inl rfl)))) (fit16 hq)) hq hq (wpick _ 1 r (.inr (.inl rfl)) fr) (wpick _ 3 b (.inr (.inr (.inr (.inl rfl)))) (fit16 hb)) hb hb (wpick _ 4 g (.inr (.inr (.inr (.inr rfl)))) fg) (wpick _ 4 t (.inr (.inr (.inr (.inr rfl)))) ft)
  rw [ancB_fold f q r b g t] at hp
  exact wgood_of w (fun W => by kernel_rfl) hp
/-- How a book lies. -/
def Bk (w : World) (g : Nat) (s : BS) : Prop := Holds w g 33 (bk7 s).toArray
section
variable {w w' : World} {g : Nat} {s : BS}
theorem Bk.lt (h : Bk w g s) : g < w.heap.size := Holds.lt h
theorem Bk.below (h : Bk w g s) (hb : Below w.heap.size w w') : Bk w' g s := Holds.below h hb (Holds.lt h)
theorem Bk.chg {S : Nat → Prop} (h : Bk w g s) (hc : Chg S w w') (hn : ¬ S g) : Bk w' g s := Holds.chg h hc hn
theorem Bk.six (h : Bk w g s) : w.cell? ⟨g, 0, none⟩ = some (.int .i64 s.f) ∧ w.cell? ⟨g, 1, none⟩ = some (.int .u16 s.q) ∧ w.cell? ⟨g, 2, none⟩ = some (.int .i64 s.r) ∧ w.cell? ⟨g, 3, none⟩ = some (.int .u16 s.b) ∧ w.cell? ⟨g, 4, none⟩ = some (.int .i64 s.g) ∧ w.cell? ⟨g, 5, none⟩ = some (.int .i64 s.t) :=
  ⟨Holds.cell h 0, Holds.cell h 1, Holds.cell h 2, Holds.cell h 3, Holds.cell h 4, Holds.cell h 5⟩
theorem Bk.c0 (h : Bk w g s) : w.cell? ⟨g, 0, none⟩ = some (.int .i64 s.f) := Holds.cell h 0
theorem Bk.c1 (h : Bk w g s) : w.cell? ⟨g, 1, none⟩ = some (.int .u16 s.q) := Holds.cell h 1
theorem Bk.c2 (h : Bk w g s) : w.cell? ⟨g, 2, none⟩ = some (.int .i64 s.r) := Holds.cell h 2
theorem Bk.c3 (h : Bk w g s) : w.cell? ⟨g, 3, none⟩ = some (.int .u16 s.b) := Holds.cell h 3
theorem Bk.c4 (h : Bk w g s) : w.cell? ⟨g, 4, none⟩ = some (.int .i64 s.g) := Holds.cell h 4
theorem Bk.c5 (h : Bk w g s) : w.cell? ⟨g, 5, none⟩ = some (.int .i64 s.t) := Holds.cell h 5
theorem Bk.c6 (h : Bk w g s) : w.cell? ⟨g, 6, none⟩ = some (.bool s.has) := Holds.cell h 6
end
/-- What a call that writes leaves: the book, and nothing else that was there is changed. -/
def BGoes (g : Nat) (s' : BS) (w w' : World) : Prop := Bk w' g s' ∧ Chg (fun k => k = g) w w'
theorem BGoes.of_below {w w' : World} {g : Nat} {s : BS} (h : Bk w g s) (hb : Below w.heap.size w w') : BGoes g s w w' := ⟨h.below hb, Chg.of_below _ hb⟩
theorem BGoes.row {w w' : World} {g : Nat} {s s' : BS} (h : Bk w g s) (hb : Below w.heap.size w w') : BGoes g s' w (w'.setRow g (bk7 s').toArray) :=
  ⟨Holds.row (h.below hb) _, (Chg.of_below _ hb).trans (Chg.of_grown (grown_row w' g _) (S := fun k => k = g) (fun k e => by cases e; rfl)) (fun _ _ e => e)⟩
theorem Box.rowB {w0 w : World} {t : TypeId} {cs : Array Value} (h : Box w0 t cs w) (l : List Value) : Box w0 t l.toArray (w.setRow w0.heap.size l.toArray) :=
  ⟨h.holds.row _, Below.chg h.below (Chg.of_grown (grown_row w w0.heap.size l.toArray) (S := fun k => k = w0.heap.size) (fun k e => by cases e; rfl)) h.below.size (fun k e => by omega)⟩
/-- Two blocks of a call's own, side by side. -/
structure Duo (w0 : World) (ta tb : TypeId) (ca cb : Array Value) (w : World) : Prop where
  below : Below w0.heap.size w0 w
  one : Holds w w0.heap.size ta ca
  two : Holds w (w0.heap.size + 1) tb cb
section
variable {w0 w w' : World} {ta tb : TypeId} {ca cb : Array Value}
theorem Duo.start (w0 : World) (ta tb : TypeId) (ca cb : Array Value) : Duo w0 ta tb ca cb ((w0.alloc (.cells ca ta)).alloc (.cells cb tb)) := by
  have h2 := Holds.new (w0.alloc (.cells ca ta)) tb cb
  rw [size_alloc] at h2
  exact ⟨((Below.refl _ _).alloc (Nat.le_refl _) _).alloc (by simp) _, (Holds.new w0 _ _).alloc _, h2⟩
theorem Duo.next (h : Duo w0 ta tb ca cb w) (hb : Below w.heap.size w w') : Duo w0 ta tb ca cb w' := ⟨h.below.trans (hb.mono h.below.size), h.one.below hb h.one.lt, h.two.below hb h.two.lt⟩
theorem Duo.answer (h : Duo w0 ta tb ca cb w) (l : List Value) : Duo w0 ta tb ca l.toArray (w.setRow (w0.heap.size + 1) l.toArray) := by
  have hg := grown_row w (w0.heap.size + 1) l.toArray
  exact ⟨Below.chg h.below (Chg.of_grown hg (S := fun k => k = w0.heap.size + 1) (fun k e => by cases e; rfl)) h.below.size (fun k e => by omega), h.one.grown hg (fun e => absurd (Option.some.inj e) (by omega)), h.two.row _⟩
theorem Duo.put2 {x y : Value} (h : Duo w0 ta tb ca #[x, y] w) (a b : Value) : Duo w0 ta tb ca #[a, b] ((w.setCell ⟨w0.heap.size + 1, 0, none⟩ a).setCell ⟨w0.heap.size + 1, 1, none⟩ b) :=
  ⟨(h.below.setCell (p := ⟨w0.heap.size + 1, 0, none⟩) (Nat.le_succ _) _).setCell (p := ⟨w0.heap.size + 1, 1, none⟩) (Nat.le_succ _) _, (h.one.far (by omega) _).far (by omega) _, (h.two.put 0 a).put 1 b⟩
theorem Duo.put6 {x0 x1 x2 x3 x4 x5 : Value} (h : Duo w0 ta tb ca #[x0, x1, x2, x3, x4, x5] w) (a0 a1 a2 a3 a4 a5 : Value) : Duo w0 ta tb ca #[a0, a1, a2, a3, a4, a5] ((((((w.setCell ⟨w0.heap.size + 1, 0, none⟩ a0).setCell ⟨w0.heap.size + 1, 1, none⟩ a1).setCell ⟨w0.heap.size + 1, 2, none⟩ a2).setCell ⟨w0.heap.size + 1, 3, none⟩ a3).setCell ⟨w0.heap.size + 1, 4, none⟩ a4).setCell ⟨w0.heap.size + 1, 5, none⟩ a5) :=
  ⟨(((((h.below.setCell (p := ⟨w0.heap.size + 1, 0, none⟩) (Nat.le_succ _) _).setCell (p := ⟨w0.heap.size + 1, 1, none⟩) (Nat.le_succ _) _).setCell (p := ⟨w0.heap.size + 1, 2, none⟩) (Nat.le_succ _) _).setCell (p := ⟨w0.heap.size + 1, 3, none⟩) (Nat.le_succ _) _).setCell (p := ⟨w0.heap.size + 1, 4, none⟩) (Nat.le_succ _) _).setCell (p := ⟨w0.heap.size + 1, 5, none⟩) (Nat.le_succ _) _,
    (((((h.one.far (by omega) _).far (by omega) _).far (by omega) _).far (by omega) _).far (by omega) _).far (by omega) _, (((((h.two.put 0 a0).put 1 a1).put 2 a2).put 3 a3).put 4 a4).put 5 a5⟩
theorem Duo.lt (h : Duo w0 ta tb ca cb w) : w0.heap.size + 1 < w.heap.size := h.two.lt
end
theorem adrop_nil (w : World) : Calls Try.prog 8 #[.pointer none] w fun e w' => e = .returned (.tuple #[]) ∧ w = w' := by
  go_enter Try.func8, Try.ntmps8
  go_wp2
  refine bodyPost_ret (results_none rfl _ _ _) rfl ?_
  exact ⟨rfl, rfl⟩
set_option maxHeartbeats 4000000 in
set_option maxRecDepth 100000 in
theorem adrop_any (w : World) (g : Nat) (s : BS) (h : Bk w g s) : Calls Try.prog 8 #[.pointer (some ⟨g, 0, none⟩)] w fun e w' => e = .returned (.tuple #[]) ∧ BGoes g .none w w' := by
  have HE := Lib.hid (BGoes.row (s' := .none) h (Below.refl _ _))
  have HH := Lib.hid h
  clear h
  go_enter Try.func8, Try.ntmps8
  go_wp2_with (refine wpList_store_at rfl 33 (.tmp 6) (.tmp 5) rfl g 0 (bk7 .none) rfl rfl 33 (bk7 s) HH.out bk_size (Nat.le_refl 7) (bk7_one _) ?_; rw [splice_all (bk7 s) (bk7 .none) rfl])
  go_end0
  exact ⟨rfl, HE.out⟩
set_option maxHeartbeats 4000000 in
set_option maxRecDepth 100000 in
theorem ahas_nil (w : World) : Calls Try.prog 9 #[.pointer none] w fun e w' => e = .returned (.tuple #[.agg #[.int .i64 0, .int .u16 0, .int .i64 0, .int .u16 0, .int .i64 0, .int .i64 0], .bool false]) ∧ Below w.heap.size w w' := by
  have HR := Lib.hid (Box.start w 31 #[.int .i64 0, .int .u16 0, .int .i64 0, .int .u16 0, .int .i64 0, .int .i64 0])
  go_enter Try.func9, Try.ntmps9
  go_wp2
  refine bodyPost_ret (results_row_tmp rfl _ _ w.heap.size 31 (an6 0 0 0 0 0 0) _ _ rfl HR.out.holds Try.underlying31 rfl an_size rfl) rfl ?_
  exact ⟨rfl, HR.out.below⟩
set_option maxHeartbeats 4000000 in
set_option maxRecDepth 100000 in
theorem ahas_any (w : World) (g : Nat) (s : BS) (h : Bk w g s) : Calls Try.prog 9 #[.pointer (some ⟨g, 0, none⟩)] w fun e w' => e = .returned (.tuple #[.agg #[.int .i64 s.f, .int .u16 s.q, .int .i64 s.r, .int .u16 s.b, .int .i64 s.g, .int .i64 s.t], .bool s.has]) ∧ Below w.heap.size w w' := by
  have hR := Box.start w 31 #[.int .i64 0, .int .u16 0, .int .i64 0, .int .u16 0, .int .i64 0, .int .i64 0]
  have hB := h.below hR.below
  have HLT := Lib.hid h.lt
  go_enter Try.func9, Try.ntmps9
  go_upto_region 1 with (fail)
  obtain ⟨V, hV⟩ : ∃ V, V = w.alloc (.cells #[.int .i64 0, .int .u16 0, .int .i64 0, .int .u16 0, .int .i64 0, .int .i64 0] 31) := ⟨_, rfl⟩
  rw [← hV] at hR hB ⊢
  clear hV h
  have HR := Lib.hid hR.drew
  have HS := Lib.hid (show V.drew.cell? ⟨g, 0, none⟩ = some (.int .i64 s.f) ∧ V.drew.cell? ⟨g, 1, none⟩ = some (.int .u16 s.q) ∧ V.drew.cell? ⟨g, 2, none⟩ = some (.int .i64 s.r) ∧ V.drew.cell? ⟨g, 3, none⟩ = some (.int .u16 s.b) ∧ V.drew.cell? ⟨g, 4, none⟩ = some (.int .i64 s.g) ∧ V.drew.cell? ⟨g, 5, none⟩ = some (.int .i64 s.t) ∧ V.drew.cell? ⟨g, 6, none⟩ = some (.bool s.has) from ⟨hB.c0, hB.c1, hB.c2, hB.c3, hB.c4, hB.c5, hB.c6⟩)
  have HB := Lib.hid (show Bk V.drew g s from hB)
  have HNE := Lib.hid (show ¬ g = w.heap.size from Nat.ne_of_lt HLT.out)
  clear hR hB
  go_upto_region 3 with (fail)
  refine region_turns (fun (w' : World) => w'.cell? ⟨g, 0, none⟩ = some (.int .i64 s.f) ∧ w'.cell? ⟨g, 1, none⟩ = some (.int .u16 s.q) ∧ w'.cell? ⟨g, 2, none⟩ = some (.int .i64 s.r) ∧ w'.cell? ⟨g, 3, none⟩ = some (.int .u16 s.b) ∧ w'.cell? ⟨g, 4, none⟩ = some (.int .i64 s.g) ∧ w'.cell? ⟨g, 5, none⟩ = some (.int .i64 s.t) ∧ w'.cell? ⟨g, 6, none⟩ = some (.bool s.has)) (fun j => decide (10 ≤ j)) (by kernel_rfl) (HS.out) (fun hS => ?_)
  refine Turns.take hS 0 _ rfl (by kernel_rfl) (by kernel_rfl) (by kernel_rfl) (by kernel_rfl) (fun _ _ _ h => h) (by rfl) (fun w' hS' => by (try dsimp only at hS'); go_split_ands; go_simp; (try with_reducible rfl)) ?_
  simp only [Act.put, List.getElem_toArray, List.getElem_cons_succ, List.getElem_cons_zero, List.setIfInBounds_toArray, List.set_cons_zero, List.set_cons_succ]
  refine Turns.take hS 1 _ rfl (by kernel_rfl) (by kernel_rfl) (by kernel_rfl) (by kernel_rfl) (fun _ _ _ h => h) (by rfl) (fun w' hS' => by (try dsimp only at hS'); go_split_ands; go_simp; (try with_reducible rfl)) ?_
  simp only [Act.put, List.getElem_toArray, List.getElem_cons_succ, List.getElem_cons_zero, List.setIfInBounds_toArray, List.set_cons_zero, List.set_cons_succ]
  refine Turns.take hS 2 _ rfl (by kernel_rfl) (by kernel_rfl) (by kernel_rfl) (by kernel_rfl) (fun _ _ _ h => h) (by rfl) (fun w' hS' => by (try dsimp only at hS'); go_split_ands; go_simp; (try with_reducible rfl)) ?_
  simp only [Act.put, List.getElem_toArray, List.getElem_cons_succ, List.getElem_cons_zero, List.setIfInBounds_toArray, List.set_cons_zero, List.set_cons_succ]
  refine Turns.take hS 3 _ rfl (by kernel_rfl) (by kernel_rfl) (by kernel_rfl) (by kernel_rfl) (fun _ _ _ h => h) (by rfl) (fun w' hS' => by (try dsimp only at hS'); go_split_ands; go_simp; (try with_reducible rfl)) ?_
  simp only [Act.put, List.getElem_toArray, List.getElem_cons_succ, List.getElem_cons_zero, List.setIfInBounds_toArray, List.set_cons_zero, List.set_cons_succ]
  refine Turns.take hS 4 _ rfl (by kernel_rfl) (by kernel_rfl) (by kernel_rfl) (by kernel_rfl) (fun _ _ _ h => h) (by rfl) (fun w' hS' => by (try dsimp only at hS'); go_split_ands; go_simp; (try with_reducible rfl)) ?_
  simp only [Act.put, List.getElem_toArray, List.getElem_cons_succ, List.getElem_cons_zero, List.setIfInBounds_toArray, List.set_cons_zero, List.set_cons_succ]
  refine Turns.take hS 5 _ rfl (by kernel_rfl) (by kernel_rfl) (by kernel_rfl) (by kernel_rfl) (fun _ _ _ h => h) (by rfl) (fun w' hS' => by (try dsimp only at hS'); go_split_ands; go_simp; (try with_reducible rfl)) ?_
  simp only [Act.put, List.getElem_toArray, List.getElem_cons_succ, List.getElem_cons_zero, List.setIfInBounds_toArray, List.set_cons_zero, List.set_cons_succ]
  refine Turns.take hS 6 _ rfl (by kernel_rfl) (by kernel_rfl) (by kernel_rfl) (by kernel_rfl) (fun _ _ _ h => h) (by rfl) (fun w' hS' => by (try dsimp only at hS'); go_split_ands; go_simp; (try with_reducible rfl)) ?_
  simp only [Act.put, List.getElem_toArray, List.getElem_cons_succ, List.getElem_cons_zero, List.setIfInBounds_toArray, List.set_cons_zero, List.set_cons_succ]
  refine Turns.take hS 7 _ rfl (by kernel_rfl) (by kernel_rfl) (by kernel_rfl) (by kernel_rfl) (fun _ _ _ h => h) (by rfl) (fun w' hS' => by (try dsimp only at hS'); go_split_ands; go_simp; (try with_reducible rfl)) ?_
  simp only [Act.put, List.getElem_toArray, List.getElem_cons_succ, List.getElem_cons_zero, List.setIfInBounds_toArray, List.set_cons_zero, List.set_cons_succ]
  refine Turns.next 8 rfl (by kernel_rfl) (by rfl) (fun K hK => ?_)
  simp only [List.getElem_toArray, List.getElem_cons_succ, List.getElem_cons_zero]
  refine wp_store_at 31 (.tmp 2) (.tmp 10) rfl w.heap.size 0 (an6 s.f s.q s.r s.b s.g s.t) ?hs ?hx 31 (an6 0 0 0 0 0 0) HR.out.holds an_size (Nat.le_refl 6) (an6_one _ _ _ _ _ _) ?_
  case hs => first | rfl | simp [Act.eval, Act.put]
  case hx => first | rfl | simp [Act.eval, Act.put, an6]
  rw [splice_all (an6 0 0 0 0 0 0) (an6 s.f s.q s.r s.b s.g s.t) rfl]
  replace HR := Lib.hid (HR.out.rowB (an6 s.f s.q s.r s.b s.g s.t))
  have hb2 := (HB.out.chg (Chg.of_grown (grown_row V.drew w.heap.size (an6 s.f s.q s.r s.b s.g s.t).toArray) (S := fun k => k = w.heap.size) (fun k e => by cases e; rfl)) HNE.out)
  have HS2 := Lib.hid (show (V.drew.setRow w.heap.size (an6 s.f s.q s.r s.b s.g s.t).toArray).cell? ⟨g, 0, none⟩ = some (.int .i64 s.f) ∧ (V.drew.setRow w.heap.size (an6 s.f s.q s.r s.b s.g s.t).toArray).cell? ⟨g, 1, none⟩ = some (.int .u16 s.q) ∧ (V.drew.setRow w.heap.size (an6 s.f s.q s.r s.b s.g s.t).toArray).cell? ⟨g, 2, none⟩ = some (.int .i64 s.r) ∧ (V.drew.setRow w.heap.size (an6 s.f s.q s.r s.b s.g s.t).toArray).cell? ⟨g, 3, none⟩ = some (.int .u16 s.b) ∧ (V.drew.setRow w.heap.size (an6 s.f s.q s.r s.b s.g s.t).toArray).cell? ⟨g, 4, none⟩ = some (.int .i64 s.g) ∧ (V.drew.setRow w.heap.size (an6 s.f s.q s.r s.b s.g s.t).toArray).cell? ⟨g, 5, none⟩ = some (.int .i64 s.t) ∧ (V.drew.setRow w.heap.size (an6 s.f s.q s.r s.b s.g s.t).toArray).cell? ⟨g, 6, none⟩ = some (.bool s.has) from ⟨hb2.c0, hb2.c1, hb2.c2, hb2.c3, hb2.c4, hb2.c5, hb2.c6⟩)
  clear hb2
  refine hK.out _ _ (show (fun (w' : World) => w'.cell? ⟨g, 0, none⟩ = some (.int .i64 s.f) ∧ w'.cell? ⟨g, 1, none⟩ = some (.int .u16 s.q) ∧ w'.cell? ⟨g, 2, none⟩ = some (.int .i64 s.r) ∧ w'.cell? ⟨g, 3, none⟩ = some (.int .u16 s.b) ∧ w'.cell? ⟨g, 4, none⟩ = some (.int .i64 s.g) ∧ w'.cell? ⟨g, 5, none⟩ = some (.int .i64 s.t) ∧ w'.cell? ⟨g, 6, none⟩ = some (.bool s.has)) _ from HS2.out) ?_
  clear hK K hS
  have hS := (show (fun (w' : World) => w'.cell? ⟨g, 0, none⟩ = some (.int .i64 s.f) ∧ w'.cell? ⟨g, 1, none⟩ = some (.int .u16 s.q) ∧ w'.cell? ⟨g, 2, none⟩ = some (.int .i64 s.r) ∧ w'.cell? ⟨g, 3, none⟩ = some (.int .u16 s.b) ∧ w'.cell? ⟨g, 4, none⟩ = some (.int .i64 s.g) ∧ w'.cell? ⟨g, 5, none⟩ = some (.int .i64 s.t) ∧ w'.cell? ⟨g, 6, none⟩ = some (.bool s.has)) _ from HS2.out)
  refine Turns.take hS 9 _ rfl (by kernel_rfl) (by kernel_rfl) (by kernel_rfl) (by kernel_rfl) (fun _ _ _ h => h) (by rfl) (fun w' hS' => by (try dsimp only at hS'); go_split_ands; go_simp; (try with_reducible rfl)) ?_
  simp only [Act.put, List.getElem_toArray, List.getElem_cons_succ, List.getElem_cons_zero, List.setIfInBounds_toArray, List.set_cons_zero, List.set_cons_succ]
  refine Turns.rest (late_done (by kernel_rfl)) ?_
  refine any_tail 10 (by rfl) (by kernel_rfl) ?_
  simp only [List.drop_succ_cons, List.drop_zero]
  clear hS
  go_wp2
  refine bodyPost_ret (results_row_tmp rfl _ _ w.heap.size 31 (an6 s.f s.q s.r s.b s.g s.t) _ _ rfl HR.out.holds Try.underlying31 rfl an_size rfl) rfl ?_
  exact ⟨rfl, HR.out.below⟩
theorem atime_any (n : Int) (w : World) : Calls Try.prog 23 #[.int .i64 n] w fun e w' => e = .returned (.bool (in50 n)) ∧ w = w' := by
  unfold in50
  by_cases h : 0 ≤ n
  · have d0 : decide (0 ≤ n) = true := decide_eq_true h
    go_enter Try.func23, Try.ntmps23
    go_wp2
    go_ret
    exact ⟨by simp [h], rfl⟩
  · have d0 : decide (0 ≤ n) = false := decide_eq_false h
    go_enter Try.func23, Try.ntmps23
    go_wp2
    go_ret
    exact ⟨by simp [h], rfl⟩
set_option maxHeartbeats 4000000 in
set_option maxRecDepth 100000 in
theorem aof_nil (r b : Int) (w : World) : Calls Try.prog 22 #[.pointer none, .agg #[.int .i64 r, .int .u16 b]] w fun e w' => e = .returned (.tuple #[.agg #[.int .i64 0, .int .u16 0, .int .i64 0, .int .u16 0, .int .i64 0, .int .i64 0], .int .i64 2]) ∧ Below w.heap.size w w' := by
  have HD := Lib.hid (Duo.start w 43 31 #[.int .i64 r, .int .u16 b] #[.int .i64 0, .int .u16 0, .int .i64 0, .int .u16 0, .int .i64 0, .int .i64 0])
  go_enter Try.func22, Try.ntmps22
  go_wp2
  refine bodyPost_ret (results_row_tmp rfl _ _ (w.heap.size + 1) 31 (an6 0 0 0 0 0 0) _ _ rfl HD.out.two Try.underlying31 rfl an_size rfl) rfl ?_
  exact ⟨rfl, HD.out.below⟩
set_option maxHeartbeats 4000000 in
set_option maxRecDepth 100000 in
theorem aof_none (w : World) (g : Nat) (s : BS) (h : Bk w g s) (r b : Int) (hh : s.has = false) : Calls Try.prog 22 #[.pointer (some ⟨g, 0, none⟩), .agg #[.int .i64 r, .int .u16 b]] w fun e w' => e = .returned (.tuple #[.agg #[.int .i64 0, .int .u16 0, .int .i64 0, .int .u16 0, .int .i64 0, .int .i64 0], .int .i64 7]) ∧ Below w.heap.size w w' := by
  have hD := Duo.start w 43 31 #[.int .i64 r, .int .u16 b] #[.int .i64 0, .int .u16 0, .int .i64 0, .int .u16 0, .int .i64 0, .int .i64 0]
  have hB := h.below hD.below
  go_enter Try.func22, Try.ntmps22
  go_upto_region 1 with (fail)
  obtain ⟨V, hV⟩ : ∃ V, V = (w.alloc (.cells #[.int .i64 r, .int .u16 b] 43)).alloc (.cells #[.int .i64 0, .int .u16 0, .int .i64 0, .int .u16 0, .int .i64 0, .int .i64 0] 31) := ⟨_, rfl⟩
  rw [← hV] at hD hB ⊢
  clear hV h
  have k6 := hB.c6
  rw [hh] at k6
  have HD := Lib.hid hD
  clear hD hB hh
  go_wp2_with (refine wpList_store_at rfl 31 (.tmp 4) (.tmp 14) rfl (w.heap.size + 1) 0 (an6 0 0 0 0 0 0) rfl rfl 31 (an6 0 0 0 0 0 0) HD.out.two an_size (Nat.le_refl 6) (an6_one _ _ _ _ _ _) ?_; rw [splice_all (an6 0 0 0 0 0 0) (an6 0 0 0 0 0 0) rfl]; replace HD := Lib.hid (HD.out.answer (an6 0 0 0 0 0 0)))
  refine bodyPost_ret (results_row_tmp rfl _ _ (w.heap.size + 1) 31 (an6 0 0 0 0 0 0) _ _ rfl HD.out.two Try.underlying31 rfl an_size rfl) rfl ?_
  exact ⟨rfl, HD.out.below⟩
set_option maxHeartbeats 4000000 in
set_option maxRecDepth 100000 in
theorem aof_other (w : World) (g : Nat) (s : BS) (h : Bk w g s) (r b : Int) (hh : s.has = true) (hn : r ≠ s.r ∨ (r = s.r ∧ b ≠ s.b)) : Calls Try.prog 22 #[.pointer (some ⟨g, 0, none⟩), .agg #[.int .i64 r, .int .u16 b]] w fun e w' => e = .returned (.tuple #[.agg #[.int .i64 0, .int .u16 0, .int .i64 0, .int .u16 0, .int .i64 0, .int .i64 0], .int .i64 9]) ∧ Below w.heap.size w w' := by
  rcases hn with hn | ⟨hn, hm⟩
  · have d1 : (r != s.r) = true := by simpa using hn
    clear hn
    have hD := Duo.start w 43 31 #[.int .i64 r, .int .u16 b] #[.int .i64 0, .int .u16 0, .int .i64 0, .int .u16 0, .int .i64 0, .int .i64 0]
    have hB := h.below hD.below
    go_enter Try.func22, Try.ntmps22
    go_upto_region 1 with (fail)
    obtain ⟨V, hV⟩ : ∃ V, V = (w.alloc (.cells #[.int .i64 r, .int .u16 b] 43)).alloc (.cells #[.int .i64 0, .int .u16 0, .int .i64 0, .int .u16 0, .int .i64 0, .int .i64 0] 31) := ⟨_, rfl⟩
    rw [← hV] at hD hB ⊢
    clear hV h
    have k6 := hB.c6
    rw [hh] at k6
    have k2 := hB.c2
    have k3 := hB.c3
    have x0 := hD.one.cell 0
    have x1 := hD.one.cell 1
    have HD := Lib.hid hD
    clear hD hB hh
    go_upto_region 5 with (fail)
    go_quiet (fail)
    replace HD := Lib.hid (HD.out.next (below_drewN (Below.refl _ _) nq))
    go_wp2_with (refine wpList_store_at rfl 31 (.tmp 4) (.tmp 33) rfl (w.heap.size + 1) 0 (an6 0 0 0 0 0 0) rfl rfl 31 (an6 0 0 0 0 0 0) HD.out.two an_size (Nat.le_refl 6) (an6_one _ _ _ _ _ _) ?_; rw [splice_all (an6 0 0 0 0 0 0) (an6 0 0 0 0 0 0) rfl]; replace HD := Lib.hid (HD.out.answer (an6 0 0 0 0 0 0)))
    refine bodyPost_ret (results_row_tmp rfl _ _ (w.heap.size + 1) 31 (an6 0 0 0 0 0 0) _ _ rfl HD.out.two Try.underlying31 rfl an_size rfl) rfl ?_
    exact ⟨rfl, HD.out.below⟩
  · have d1 : (r != s.r) = false := by simpa using hn
    have d2 : (b != s.b) = true := by simpa using hm
    clear hn hm
    have hD := Duo.start w 43 31 #[.int .i64 r, .int .u16 b] #[.int .i64 0, .int .u16 0, .int .i64 0, .int .u16 0, .int .i64 0, .int .i64 0]
    have hB := h.below hD.below
    go_enter Try.func22, Try.ntmps22
    go_upto_region 1 with (fail)
    obtain ⟨V, hV⟩ : ∃ V, V = (w.alloc (.cells #[.int .i64 r, .int .u16 b] 43)).alloc (.cells #[.int .i64 0, .int .u16 0, .int .i64 0, .int .u16 0, .int .i64 0, .int .i64 0] 31) := ⟨_, rfl⟩
    rw [← hV] at hD hB ⊢
    clear hV h
    have k6 := hB.c6
    rw [hh] at k6
    have k2 := hB.c2
    have k3 := hB.c3
    have x0 := hD.one.cell 0
    have x1 := hD.one.cell 1
    have HD := Lib.hid hD
    clear hD hB hh
    go_upto_region 5 with (fail)
    go_quiet (fail)
    replace HD := Lib.hid (HD.out.next (below_drewN (Below.refl _ _) nq))
    go_wp2_with (refine wpList_store_at rfl 31 (.tmp 4) (.tmp 33) rfl (w.heap.size + 1) 0 (an6 0 0 0 0 0 0) rfl rfl 31 (an6 0 0 0 0 0 0) HD.out.two an_size (Nat.le_refl 6) (an6_one _ _ _ _ _ _) ?_; rw [splice_all (an6 0 0 0 0 0 0) (an6 0 0 0 0 0 0) rfl]; replace HD := Lib.hid (HD.out.answer (an6 0 0 0 0 0 0)))
    refine bodyPost_ret (results_row_tmp rfl _ _ (w.heap.size + 1) 31 (an6 0 0 0 0 0 0) _ _ rfl HD.out.two Try.underlying31 rfl an_size rfl) rfl ?_
    exact ⟨rfl, HD.out.below⟩
set_option maxHeartbeats 4000000 in
set_option maxRecDepth 100000 in
theorem aof_yes (w : World) (g : Nat) (s : BS) (h : Bk w g s) (r b : Int) (hh : s.has = true) (hr : r = s.r) (hm : b = s.b) : Calls Try.prog 22 #[.pointer (some ⟨g, 0, none⟩), .agg #[.int .i64 r, .int .u16 b]] w fun e w' => e = .returned (.tuple #[.agg #[.int .i64 s.f, .int .u16 s.q, .int .i64 s.r, .int .u16 s.b, .int .i64 s.g, .int .i64 s.t], .int .i64 0]) ∧ Below w.heap.size w w' := by
  have d1 : (r != s.r) = false := by simpa using hr
  have d2 : (b != s.b) = false := by simpa using hm
  clear hr hm
  have hD := Duo.start w 43 31 #[.int .i64 r, .int .u16 b] #[.int .i64 0, .int .u16 0, .int .i64 0, .int .u16 0, .int .i64 0, .int .i64 0]
  have hB := h.below hD.below
  go_enter Try.func22, Try.ntmps22
  go_upto_region 1 with (fail)
  obtain ⟨V, hV⟩ : ∃ V, V = (w.alloc (.cells #[.int .i64 r, .int .u16 b] 43)).alloc (.cells #[.int .i64 0, .int .u16 0, .int .i64 0, .int .u16 0, .int .i64 0, .int .i64 0] 31) := ⟨_, rfl⟩
  rw [← hV] at hD hB ⊢
  clear hV h
  have k6 := hB.c6
  rw [hh] at k6
  have k2 := hB.c2
  have k3 := hB.c3
  have x0 := hD.one.cell 0
  have x1 := hD.one.cell 1
  have HD := Lib.hid hD
  have HB := Lib.hid hB
  clear hD hB hh
  go_upto_region 5 with (fail)
  go_quiet (fail)
  replace HD := Lib.hid (HD.out.next (below_drewN (Below.refl _ _) nq))
  replace HB := Lib.hid (HB.out.below (below_drewN (Below.refl _ _) nq))
  clear k2 k3
  obtain ⟨k0, k1, k2, k3, k4, k5⟩ := HB.out.six
  go_wp2_with (refine wpList_store_at rfl 31 (.tmp 4) (.tmp 37) rfl (w.heap.size + 1) 0 (an6 s.f s.q s.r s.b s.g s.t) rfl rfl 31 (an6 0 0 0 0 0 0) HD.out.two an_size (Nat.le_refl 6) (an6_one _ _ _ _ _ _) ?_; rw [splice_all (an6 0 0 0 0 0 0) (an6 s.f s.q s.r s.b s.g s.t) rfl]; replace HD := Lib.hid (HD.out.answer (an6 s.f s.q s.r s.b s.g s.t)))
  refine bodyPost_ret (results_row_tmp rfl _ _ (w.heap.size + 1) 31 (an6 s.f s.q s.r s.b s.g s.t) _ _ rfl HD.out.two Try.underlying31 rfl an_size rfl) rfl ?_
  exact ⟨rfl, HD.out.below⟩
/-- of, where there is an error. -/
theorem aof_err (w : World) (g : Nat) (s : BS) (h : Bk w g s) (r b : Int) (hn : ¬ anOf s r b = 0) : Calls Try.prog 22 #[.pointer (some ⟨g, 0, none⟩), .agg #[.int .i64 r, .int .u16 b]] w fun e w' => e = .returned (.tuple #[.agg #[.int .i64 0, .int .u16 0, .int .i64 0, .int .u16 0, .int .i64 0, .int .i64 0], .int .i64 (anOf s r b)]) ∧ Below w.heap.size w w' := by
  rcases anOf_cases s r b with ⟨h1, h2⟩ | ⟨h1, h2, h3⟩ | ⟨h1, h2, h3, h4⟩ | ⟨_, _, _, h4⟩
  · rw [h2]; exact aof_none w g s h r b h1
  · rw [h3]; exact aof_other w g s h r b h1 (.inl h2)
  · rw [h4]; exact aof_other w g s h r b h1 (.inr ⟨h2, h3⟩)
  · exact absurd h4 hn
theorem aof_ok (w : World) (g : Nat) (s : BS) (h : Bk w g s) (r b : Int) (hn : anOf s r b = 0) : Calls Try.prog 22 #[.pointer (some ⟨g, 0, none⟩), .agg #[.int .i64 r, .int .u16 b]] w fun e w' => e = .returned (.tuple #[.agg #[.int .i64 s.f, .int .u16 s.q, .int .i64 s.r, .int .u16 s.b, .int .i64 s.g, .int .i64 s.t], .int .i64 0]) ∧ Below w.heap.size w w' := by
  rcases anOf_cases s r b with ⟨h1, h2⟩ | ⟨h1, h2, h3⟩ | ⟨h1, h2, h3, h4⟩ | ⟨h1, h2, h3, _⟩
  · rw [h2] at hn; cases hn
  · rw [h3] at hn; cases hn
  · rw [h4] at hn; cases hn
  · exact aof_yes w g s h r b h1 h2 h3
end Go.Proofs.Ytmmdkafkfjfgnaa

/- Package fix, for the seats of later layers: what Add, Sub, Sat, Floor and Clamp answer, for all numbers of 64 bits. -/
namespace Go.Proofs.Ytmmdkafkfjfgnaa
open Go.RowKit

theorem floor_no (a b : Int) (w : World) (h : b < 1) :
    Calls Try.prog 24 #[.int .i64 a, .int .i64 b] w fun e w' => e = .returned (.tuple #[.int .i64 0, .int .i64 0, .bool false]) ∧ w = w' := by
  go_enter Try.func24, Try.ntmps24
  go_wp2
  go_ret3
  exact ⟨rfl, rfl⟩
theorem ret_iib {k l : IntKind} {a b c d : Int} {o : Bool} (h : a = b) (g : c = d) : Ending.returned (.tuple #[.int k a, .int l c, .bool o]) = .returned (.tuple #[.int k b, .int l d, .bool o]) := by rw [h, g]
theorem tdm_neg (a b : Int) (h : 1 ≤ b) (c : a.tmod b < 0) : a.tdiv b - 1 = a / b ∧ a.tmod b + b = a % b := by
  have e1 := Int.tdiv_eq_ediv (a := a) (b := b)
  have e2 := Int.tmod_eq_emod (a := a) (b := b)
  have hs : b.sign = 1 := Int.sign_eq_one_of_pos (by omega)
  have hm := Int.emod_nonneg a (show b ≠ 0 by omega)
  rw [hs] at e1
  split at e1 <;> split at e2 <;> first | contradiction | omega
theorem tdm_pos (a b : Int) (h : 1 ≤ b) (c : ¬ a.tmod b < 0) : a.tdiv b = a / b ∧ a.tmod b = a % b := by
  have e1 := Int.tdiv_eq_ediv (a := a) (b := b)
  have e2 := Int.tmod_eq_emod (a := a) (b := b)
  have hs : b.sign = 1 := Int.sign_eq_one_of_pos (by omega)
  have hm := Int.emod_lt_of_pos a (show 0 < b by omega)
  rw [hs] at e1
  split at e1 <;> split at e2 <;> first | contradiction | omega
theorem ediv_bd (a b : Int) (h : 1 ≤ b) : (0 ≤ a → 0 ≤ a / b ∧ a / b ≤ a) ∧ (a < 0 → a ≤ a / b ∧ a / b < 0) := by
  constructor
  · intro c; exact ⟨Int.ediv_nonneg c (by omega), Int.ediv_le_self _ c⟩
  · intro c
    refine ⟨?_, Int.ediv_neg_of_neg_of_pos c (by omega)⟩
    rw [Int.le_ediv_iff_mul_le (by omega)]
    have := Int.mul_le_mul_of_nonpos_left (a := a) (by omega) h
    simpa using this
theorem floor_yes (a b : Int) (w : World) (ha : Fits a) (h1 : 1 ≤ b) (h2 : b ≤ 9223372036854775807) :
    Calls Try.prog 24 #[.int .i64 a, .int .i64 b] w fun e w' => e = .returned (.tuple #[.int .i64 (a / b), .int .i64 (a % b), .bool true]) ∧ ∃ n, w' = w.drewN n := by
  obtain ⟨ha1, ha2⟩ := ha
  have g0 := ediv_bd a b h1
  have m0 := Int.emod_nonneg a (show b ≠ 0 by omega)
  have m1 := Int.emod_lt_of_pos a (show 0 < b by omega)
  by_cases c : a.tmod b < 0
  · have H : Hid (a.tdiv b - 1 = a / b ∧ a.tmod b + b = a % b) := Lib.hid (tdm_neg a b h1 c)
    have g1 : -9223372036854775808 ≤ a.tdiv b - 1 ∧ a.tdiv b - 1 ≤ 9223372036854775807 := by have := H.out; omega
    have g2 : -9223372036854775808 ≤ a.tmod b + b ∧ a.tmod b + b ≤ 9223372036854775807 := by have := H.out; omega
    obtain ⟨g3, g4⟩ := g1
    obtain ⟨g5, g6⟩ := g2
    clear g0 m0 m1
    go_enter Try.func24, Try.ntmps24
    go_wp2
    go_quiet (fail)
    go_wp2
    go_ret3
    exact ⟨ret_iib H.out.1 H.out.2, ⟨_, rfl⟩⟩
  · have H : Hid (a.tdiv b = a / b ∧ a.tmod b = a % b) := Lib.hid (tdm_pos a b h1 c)
    clear g0 m0 m1
    go_enter Try.func24, Try.ntmps24
    go_wp2
    go_quiet (fail)
    go_wp2
    go_ret3
    exact ⟨ret_iib H.out.1 H.out.2, ⟨_, rfl⟩⟩
end Go.Proofs.Ytmmdkafkfjfgnaa

/- Package anchor: Tai, Time, Utc. -/
namespace Go.Proofs.Ytmmdkafkfjfgnaa
open Go.RowKit
set_option linter.unusedVariables false
set_option linter.unusedSimpArgs false

theorem mo_size : (Try.prog.info? 38).map (·.size) = some 2 := by kernel_rfl
theorem ut_size : (Try.prog.info? 67).map (·.size) = some 6 := by kernel_rfl
theorem one_two (a b : Int) : ∀ v ∈ ([.int .i64 a, .int .i64 b] : List Value), v.oneCell' = true := by intro v hv; simp at hv; rcases hv with rfl | rfl <;> rfl
theorem one_six (a b c d e f : Int) : ∀ v ∈ ([.int .i64 a, .int .i64 b, .int .i64 c, .int .i64 d, .int .i64 e, .int .i64 f] : List Value), v.oneCell' = true := by intro v hv; simp at hv; rcases hv with rfl | rfl | rfl | rfl | rfl | rfl <;> rfl
set_option maxHeartbeats 4000000 in
set_option maxRecDepth 100000 in
theorem atai_err (w : World) (p : Option Addr) (r b n E : Int) (hE : ¬ E = 0) (hof : ∀ W, Below w.heap.size w W → Calls Try.prog 22 #[.pointer p, .agg #[.int .i64 r, .int .u16 b]] W fun e w' => e = .returned (.tuple #[.agg #[.int .i64 0, .int .u16 0, .int .i64 0, .int .u16 0, .int .i64 0, .int .i64 0], .int .i64 E]) ∧ Below W.heap.size W w') : Calls Try.prog 10 #[.pointer p, .agg #[.int .i64 r, .int .u16 b], .int .i64 n] w fun e w' => e = .returned (.tuple #[.agg #[.int .i64 0, .int .i64 0], .int .i64 E]) ∧ Below w.heap.size w w' := by
  have HO := Lib.hid hof
  have d1 : (E != 0) = true := by simpa using hE
  clear hof hE
  have hD := Duo.start w 43 38 #[.int .i64 r, .int .u16 b] #[.int .i64 0, .int .i64 0]
  go_enter Try.func10, Try.ntmps10
  go_upto_region 1 with (fail)
  obtain ⟨V, hV⟩ : ∃ V, V = (w.alloc (.cells #[.int .i64 r, .int .u16 b] 43)).alloc (.cells #[.int .i64 0, .int .i64 0] 38) := ⟨_, rfl⟩
  rw [← hV] at hD ⊢
  clear hV
  have x0 := hD.one.cell 0
  have x1 := hD.one.cell 1
  have HD := Lib.hid hD
  clear hD
  go_wp2_with (go_at_call 22; refine (HO.out _ HD.out.below).mono ?_; rintro e w1 ⟨rfl, hb1⟩; have HA := Lib.hid (Box.start w1 31 #[.int .i64 0, .int .u16 0, .int .i64 0, .int .u16 0, .int .i64 0, .int .i64 0]); replace HD := Lib.hid ((HD.out.next hb1).next HA.out.below); clear hb1 x0 x1; have r0 := HD.out.two.cell 0; have r1 := HD.out.two.cell 1; have g0 := HD.out.two.soft 0; have g1 := HD.out.two.soft 1)
  refine bodyPost_ret (results_row_tmp rfl _ _ (w.heap.size + 1) 38 [.int .i64 0, .int .i64 0] _ _ rfl (HD.out.put2 (.int .i64 0) (.int .i64 0)).two Try.underlying38 rfl mo_size rfl) rfl ?_
  exact ⟨rfl, (HD.out.put2 (.int .i64 0) (.int .i64 0)).below⟩
set_option maxHeartbeats 4000000 in
set_option maxRecDepth 100000 in
theorem atai_over (w : World) (g : Nat) (s : BS) (h : Bk w g s) (r b n : Int) (h0 : anOf s r b = 0) (hn : in50 n = false) : Calls Try.prog 10 #[.pointer (some ⟨g, 0, none⟩), .agg #[.int .i64 r, .int .u16 b], .int .i64 n] w fun e w' => e = .returned (.tuple #[.agg #[.int .i64 0, .int .i64 0], .int .i64 8]) ∧ Below w.heap.size w w' := by
  have HB := Lib.hid h
  have HH := Lib.hid (fun W (hW : Below w.heap.size w W) => aof_ok W g s (HB.out.below hW) r b h0)
  have ht := fun W => atime_any n W
  rw [hn] at ht
  clear h h0 hn
  have hD := Duo.start w 43 38 #[.int .i64 r, .int .u16 b] #[.int .i64 0, .int .i64 0]
  go_enter Try.func10, Try.ntmps10
  go_upto_region 1 with (fail)
  obtain ⟨V, hV⟩ : ∃ V, V = (w.alloc (.cells #[.int .i64 r, .int .u16 b] 43)).alloc (.cells #[.int .i64 0, .int .i64 0] 38) := ⟨_, rfl⟩
  rw [← hV] at hD ⊢
  clear hV
  have x0 := hD.one.cell 0
  have x1 := hD.one.cell 1
  have HD := Lib.hid hD
  clear hD
  go_wp2_with (first
    | (go_at_call 22; refine (HH.out _ HD.out.below).mono ?_; rintro e w1 ⟨rfl, hb1⟩; have HA := Lib.hid (Box.start w1 31 #[.int .i64 s.f, .int .u16 s.q, .int .i64 s.r, .int .u16 s.b, .int .i64 s.g, .int .i64 s.t]); replace HD := Lib.hid ((HD.out.next hb1).next HA.out.below); clear hb1 x0 x1; have r0 := HD.out.two.cell 0; have r1 := HD.out.two.cell 1; have g0 := HD.out.two.soft 0; have g1 := HD.out.two.soft 1)
    | (go_at_call 23; refine (ht _).mono ?_; rintro e wx ⟨rfl, hwx⟩; subst wx))
  refine bodyPost_ret (results_row_tmp rfl _ _ (w.heap.size + 1) 38 [.int .i64 0, .int .i64 0] _ _ rfl (HD.out.put2 (.int .i64 0) (.int .i64 0)).two Try.underlying38 rfl mo_size rfl) rfl ?_
  exact ⟨rfl, (HD.out.put2 (.int .i64 0) (.int .i64 0)).below⟩
set_option maxHeartbeats 4000000 in
set_option maxRecDepth 100000 in
theorem atai_yes (w : World) (g : Nat) (s : BS) (h : Bk w g s) (hi : BInv s) (r b n : Int) (h0 : anOf s r b = 0) (hn : in50 n = true) : Calls Try.prog 10 #[.pointer (some ⟨g, 0, none⟩), .agg #[.int .i64 r, .int .u16 b], .int .i64 n] w fun e w' => e = .returned (.tuple #[.agg #[.int .i64 (s.t + (n - s.g) / 1000), .int .i64 ((n - s.g) % 1000)], .int .i64 0]) ∧ Below w.heap.size w w' := by
  have HB := Lib.hid h
  have HH := Lib.hid (fun W (hW : Below w.heap.size w W) => aof_ok W g s (HB.out.below hW) r b h0)
  have ht := fun W => atime_any n W
  rw [hn] at ht
  obtain ⟨n0, n1⟩ := (in50_iff n).1 hn
  obtain ⟨g0, g1⟩ := hi.g
  obtain ⟨t0, t1⟩ := hi.t
  have e1 := IntWalk.i64_in (n - s.g) (by omega)
  have HF := Lib.hid (fun W => floor_yes (n - s.g) 1000 W ⟨by omega, by omega⟩ (by decide) (by decide))
  obtain ⟨Q, hQ⟩ : ∃ Q, (n - s.g) / 1000 = Q := ⟨_, rfl⟩
  obtain ⟨R, hR⟩ : ∃ R, (n - s.g) % 1000 = R := ⟨_, rfl⟩
  have e2 := IntWalk.i64_in (s.t + Q) (by omega)
  rw [hQ, hR] at HF ⊢
  clear h h0 hn hi hQ hR g0 g1 t0 t1 n0 n1
  have hD := Duo.start w 43 38 #[.int .i64 r, .int .u16 b] #[.int .i64 0, .int .i64 0]
  go_enter Try.func10, Try.ntmps10
  go_upto_region 1 with (fail)
  obtain ⟨V, hV⟩ : ∃ V, V = (w.alloc (.cells #[.int .i64 r, .int .u16 b] 43)).alloc (.cells #[.int .i64 0, .int .i64 0] 38) := ⟨_, rfl⟩
  rw [← hV] at hD ⊢
  clear hV
  have x0 := hD.one.cell 0
  have x1 := hD.one.cell 1
  have HD := Lib.hid hD
  clear hD
  go_wp2_with (first
    | (go_at_call 22; refine (HH.out _ HD.out.below).mono ?_; rintro e w1 ⟨rfl, hb1⟩; have HA := Lib.hid (Box.start w1 31 #[.int .i64 s.f, .int .u16 s.q, .int .i64 s.r, .int .u16 s.b, .int .i64 s.g, .int .i64 s.t]); replace HD := Lib.hid ((HD.out.next hb1).next HA.out.below); clear hb1 x0 x1; have y4 := HA.out.holds.cell 4; have y5 := HA.out.holds.cell 5)
    | (go_at_call 23; refine (ht _).mono ?_; rintro e wx ⟨rfl, hwx⟩; subst wx)
    | (go_at_call 24; refine (HF.out _).mono ?_; rintro e w2 ⟨rfl, nf, hw2⟩; have hb2 : Below (w1.alloc (.cells #[.int .i64 s.f, .int .u16 s.q, .int .i64 s.r, .int .u16 s.b, .int .i64 s.g, .int .i64 s.t] 31)).heap.size (w1.alloc (.cells #[.int .i64 s.f, .int .u16 s.q, .int .i64 s.r, .int .u16 s.b, .int .i64 s.g, .int .i64 s.t] 31)) w2 := by (rw [hw2]; exact below_drewN (Below.refl _ _) nf)
       replace HD := Lib.hid (HD.out.next hb2); replace HA := Lib.hid (HA.out.next hb2); clear hb2 hw2 y4 y5; have y5 := HA.out.holds.cell 5; have r0 := HD.out.two.cell 0; have r1 := HD.out.two.cell 1; have g0 := HD.out.two.soft 0; have g1 := HD.out.two.soft 1))
  refine bodyPost_ret (results_row_tmp rfl _ _ (w.heap.size + 1) 38 [.int .i64 (s.t + Q), .int .i64 R] _ _ rfl (HD.out.put2 (.int .i64 (s.t + Q)) (.int .i64 R)).two Try.underlying38 rfl mo_size rfl) rfl ?_
  exact ⟨rfl, (HD.out.put2 (.int .i64 (s.t + Q)) (.int .i64 R)).below⟩
set_option maxHeartbeats 4000000 in
set_option maxRecDepth 100000 in
theorem atim_err (w : World) (p : Option Addr) (r b n E : Int) (hE : ¬ E = 0) (hof : ∀ W, Below w.heap.size w W → Calls Try.prog 22 #[.pointer p, .agg #[.int .i64 r, .int .u16 b]] W fun e w' => e = .returned (.tuple #[.agg #[.int .i64 0, .int .u16 0, .int .i64 0, .int .u16 0, .int .i64 0, .int .i64 0], .int .i64 E]) ∧ Below W.heap.size W w') : Calls Try.prog 12 #[.pointer p, .agg #[.int .i64 r, .int .u16 b], .int .i64 n] w fun e w' => e = .returned (.tuple #[.int .i64 0, .int .i64 E]) ∧ Below w.heap.size w w' := by
  have HO := Lib.hid hof
  have d1 : (E != 0) = true := by simpa using hE
  clear hof hE
  have hD := Box.start w 43 #[.int .i64 r, .int .u16 b]
  go_enter Try.func12, Try.ntmps12
  go_upto_region 1 with (fail)
  obtain ⟨V, hV⟩ : ∃ V, V = w.alloc (.cells #[.int .i64 r, .int .u16 b] 43) := ⟨_, rfl⟩
  rw [← hV] at hD ⊢
  clear hV
  have x0 := hD.holds.cell 0
  have x1 := hD.holds.cell 1
  have HD := Lib.hid hD
  clear hD
  go_wp2_with (go_at_call 22; refine (HO.out _ HD.out.below).mono ?_; rintro e w1 ⟨rfl, hb1⟩; have HA := Lib.hid (Box.start w1 31 #[.int .i64 0, .int .u16 0, .int .i64 0, .int .u16 0, .int .i64 0, .int .i64 0]); replace HD := Lib.hid ((HD.out.next hb1).next HA.out.below); clear hb1 x0 x1)
  go_ret2
  exact ⟨rfl, HD.out.below⟩
set_option maxHeartbeats 4000000 in
set_option maxRecDepth 100000 in
theorem atim_far (w : World) (g : Nat) (s : BS) (h : Bk w g s) (r b n : Int) (h0 : anOf s r b = 0) (hn : n < -1125899906842624 ∨ 1125899906842624 < n) : Calls Try.prog 12 #[.pointer (some ⟨g, 0, none⟩), .agg #[.int .i64 r, .int .u16 b], .int .i64 n] w fun e w' => e = .returned (.tuple #[.int .i64 0, .int .i64 8]) ∧ Below w.heap.size w w' := by
  have HB := Lib.hid h
  have HH := Lib.hid (fun W (hW : Below w.heap.size w W) => aof_ok W g s (HB.out.below hW) r b h0)
  clear h h0
  by_cases hl : n < -1125899906842624
  · have d1 : decide (n < -1125899906842624) = true := decide_eq_true hl
    clear hl hn
    have hD := Box.start w 43 #[.int .i64 r, .int .u16 b]
    go_enter Try.func12, Try.ntmps12
    go_upto_region 1 with (fail)
    obtain ⟨V, hV⟩ : ∃ V, V = w.alloc (.cells #[.int .i64 r, .int .u16 b] 43) := ⟨_, rfl⟩
    rw [← hV] at hD ⊢
    clear hV
    have x0 := hD.holds.cell 0
    have x1 := hD.holds.cell 1
    have HD := Lib.hid hD
    clear hD
    go_wp2_with (go_at_call 22; refine (HH.out _ HD.out.below).mono ?_; rintro e w1 ⟨rfl, hb1⟩; have HA := Lib.hid (Box.start w1 31 #[.int .i64 s.f, .int .u16 s.q, .int .i64 s.r, .int .u16 s.b, .int .i64 s.g, .int .i64 s.t]); replace HD := Lib.hid ((HD.out.next hb1).next HA.out.below); clear hb1 x0 x1)
    go_ret2
    exact ⟨rfl, HD.out.below⟩
  · have d1 : decide (n < -1125899906842624) = false := decide_eq_false hl
    have d2 : decide (1125899906842624 < n) = true := decide_eq_true (by omega)
    clear hl hn
    have hD := Box.start w 43 #[.int .i64 r, .int .u16 b]
    go_enter Try.func12, Try.ntmps12
    go_upto_region 1 with (fail)
    obtain ⟨V, hV⟩ : ∃ V, V = w.alloc (.cells #[.int .i64 r, .int .u16 b] 43) := ⟨_, rfl⟩
    rw [← hV] at hD ⊢
    clear hV
    have x0 := hD.holds.cell 0
    have x1 := hD.holds.cell 1
    have HD := Lib.hid hD
    clear hD
    go_wp2_with (go_at_call 22; refine (HH.out _ HD.out.below).mono ?_; rintro e w1 ⟨rfl, hb1⟩; have HA := Lib.hid (Box.start w1 31 #[.int .i64 s.f, .int .u16 s.q, .int .i64 s.r, .int .u16 s.b, .int .i64 s.g, .int .i64 s.t]); replace HD := Lib.hid ((HD.out.next hb1).next HA.out.below); clear hb1 x0 x1)
    go_ret2
    exact ⟨rfl, HD.out.below⟩
set_option maxHeartbeats 4000000 in
set_option maxRecDepth 100000 in
theorem atim_any (w : World) (g : Nat) (s : BS) (h : Bk w g s) (hi : BInv s) (r b n : Int) (h0 : anOf s r b = 0) (hn : -1125899906842624 ≤ n ∧ n ≤ 1125899906842624) (G : Bool) (hG : in50 (s.g + 1000 * (n - s.t)) = G) : Calls Try.prog 12 #[.pointer (some ⟨g, 0, none⟩), .agg #[.int .i64 r, .int .u16 b], .int .i64 n] w fun e w' => e = .returned (.tuple #[.int .i64 (if G = true then s.g + 1000 * (n - s.t) else 0), .int .i64 (if G = true then 0 else 8)]) ∧ Below w.heap.size w w' := by
  have HB := Lib.hid h
  have HH := Lib.hid (fun W (hW : Below w.heap.size w W) => aof_ok W g s (HB.out.below hW) r b h0)
  obtain ⟨n0, n1⟩ := hn
  obtain ⟨g0, g1⟩ := hi.g
  obtain ⟨t0, t1⟩ := hi.t
  have d1 : decide (n < -1125899906842624) = false := decide_eq_false (by omega)
  have d2 : decide (1125899906842624 < n) = false := decide_eq_false (by omega)
  have e1 := IntWalk.i64_in (n - s.t) (by omega)
  have e2 := IntWalk.i64_in (1000 * (n - s.t)) (by omega)
  have e3 := IntWalk.i64_in (s.g + 1000 * (n - s.t)) (by omega)
  have ht := fun W => atime_any (s.g + 1000 * (n - s.t)) W
  rw [hG] at ht
  obtain ⟨X, hX⟩ : ∃ X, s.g + 1000 * (n - s.t) = X := ⟨_, rfl⟩
  rw [hX] at ht e3 ⊢
  clear h h0 hi g0 g1 t0 t1 n0 n1 hG
  cases G
  all_goals
    have hD := Box.start w 43 #[.int .i64 r, .int .u16 b]
    go_enter Try.func12, Try.ntmps12
    go_upto_region 1 with (fail)
    obtain ⟨V, hV⟩ : ∃ V, V = w.alloc (.cells #[.int .i64 r, .int .u16 b] 43) := ⟨_, rfl⟩
    rw [← hV] at hD ⊢
    clear hV
    have x0 := hD.holds.cell 0
    have x1 := hD.holds.cell 1
    have HD := Lib.hid hD
    clear hD
    go_wp2_with (first
      | (go_at_call 22; refine (HH.out _ HD.out.below).mono ?_; rintro e w1 ⟨rfl, hb1⟩; have HA := Lib.hid (Box.start w1 31 #[.int .i64 s.f, .int .u16 s.q, .int .i64 s.r, .int .u16 s.b, .int .i64 s.g, .int .i64 s.t]); replace HD := Lib.hid ((HD.out.next hb1).next HA.out.below); clear hb1 x0 x1; have y4 := HA.out.holds.cell 4; have y5 := HA.out.holds.cell 5)
      | (go_at_call 23; refine (ht _).mono ?_; rintro e wx ⟨rfl, hwx⟩; subst wx))
    go_ret2
    exact ⟨rfl, HD.out.below⟩
/-- Tai, of all that there is. -/
theorem atai_any (w : World) (g : Nat) (s : BS) (h : Bk w g s) (hi : BInv s) (r b n : Int) : Calls Try.prog 10 #[.pointer (some ⟨g, 0, none⟩), .agg #[.int .i64 r, .int .u16 b], .int .i64 n] w fun e w' => e = .returned (.tuple #[.agg #[.int .i64 (anTai s r b n).1, .int .i64 (anTai s r b n).2.1], .int .i64 (anTai s r b n).2.2]) ∧ Below w.heap.size w w' := by
  unfold anTai
  by_cases h0 : anOf s r b = 0
  · rw [if_pos h0]
    by_cases hn : in50 n = true
    · rw [if_pos ((in50_iff n).1 hn)]
      exact atai_yes w g s h hi r b n h0 hn
    · rw [if_neg (fun k => hn ((in50_iff n).2 k))]
      exact atai_over w g s h r b n h0 (by simpa using hn)
  · rw [if_neg h0]
    exact atai_err w _ r b n _ h0 (fun W hW => aof_err W g s (h.below hW) r b h0)
theorem atai_nil (w : World) (r b n : Int) : Calls Try.prog 10 #[.pointer none, .agg #[.int .i64 r, .int .u16 b], .int .i64 n] w fun e w' => e = .returned (.tuple #[.agg #[.int .i64 0, .int .i64 0], .int .i64 2]) ∧ Below w.heap.size w w' :=
  atai_err w _ r b n 2 (by decide) (fun W hW => aof_nil r b W)
/-- Time, of all that there is. -/
theorem atim_all (w : World) (g : Nat) (s : BS) (h : Bk w g s) (hi : BInv s) (r b n : Int) : Calls Try.prog 12 #[.pointer (some ⟨g, 0, none⟩), .agg #[.int .i64 r, .int .u16 b], .int .i64 n] w fun e w' => e = .returned (.tuple #[.int .i64 (anTime s r b n).1, .int .i64 (anTime s r b n).2]) ∧ Below w.heap.size w w' := by
  unfold anTime
  by_cases h0 : anOf s r b = 0
  · rw [if_pos h0]
    by_cases hn : -1125899906842624 ≤ n ∧ n ≤ 1125899906842624
    · have := atim_any w g s h hi r b n h0 hn _ rfl
      by_cases hk : in50 (s.g + 1000 * (n - s.t)) = true
      · rw [if_pos ⟨hn, (in50_iff _).1 hk⟩]
        rw [if_pos hk, if_pos hk] at this
        exact this
      · rw [if_neg (fun k => hk ((in50_iff _).2 k.2))]
        rw [if_neg hk, if_neg hk] at this
        exact this
    · rw [if_neg (fun k => hn k.1)]
      exact atim_far w g s h r b n h0 (by omega)
  · rw [if_neg h0]
    exact atim_err w _ r b n _ h0 (fun W hW => aof_err W g s (h.below hW) r b h0)
theorem atim_nil (w : World) (r b n : Int) : Calls Try.prog 12 #[.pointer none, .agg #[.int .i64 r, .int .u16 b], .int .i64 n] w fun e w' => e = .returned (.tuple #[.int .i64 0, .int .i64 2]) ∧ Below w.heap.size w w' :=
  atim_err w _ r b n 2 (by decide) (fun W hW => aof_nil r b W)
end Go.Proofs.Ytmmdkafkfjfgnaa

/- Package anchor: Utc, Hear, Make. -/
namespace Go.Proofs.Ytmmdkafkfjfgnaa
open Go.RowKit
set_option linter.unusedVariables false
set_option linter.unusedSimpArgs false

theorem results_row_two {P : Program} {fn : Func} {p u v : Tmp} {ty : TypeId} (h : fn.results = #[.cell p ty, .tmp u, .tmp v]) (tmps : Array Value) (w : World) (g : Nat) (t : TypeId) (cs : List Value) (d : TypeDesc) (x y : Value)
    (hp : tmps.getD p undef = .pointer (some ⟨g, 0, none⟩)) (hg : Holds w g t cs.toArray) (hu : P.underlying ty = some d) (hd : (match d with | .struct _ | .array _ _ => true | _ => false) = true) (hi : (P.info? ty).map (·.size) = some cs.length)
    (hx : tmps.getD u undef = x) (hy : tmps.getD v undef = y) : (results fn tmps).run P w = .ok (.tuple #[.agg cs.toArray, x, y]) w := by
  have hp' : tmps[p]?.getD undef = .pointer (some ⟨g, 0, none⟩) := by simpa using hp
  have hx' : tmps[u]?.getD undef = x := by simpa using hx
  have hy' : tmps[v]?.getD undef = y := by simpa using hy
  have hl := run_loadVar_at (P := P) w g 0 t ty cs.toArray cs d hg (fun j v hv => by simpa using hv) hu hd hi
  simp [results, h, hp', hx', hy', asAddr, hl]
set_option maxHeartbeats 4000000 in
set_option maxRecDepth 100000 in
theorem autc_err (w : World) (p tp : Option Addr) (r b n E : Int) (hE : ¬ E = 0) (hta : ∀ W, Below w.heap.size w W → Calls Try.prog 10 #[.pointer p, .agg #[.int .i64 r, .int .u16 b], .int .i64 n] W fun e w' => e = .returned (.tuple #[.agg #[.int .i64 0, .int .i64 0], .int .i64 E]) ∧ Below W.heap.size W w') : Calls Try.prog 19 #[.pointer p, .pointer tp, .agg #[.int .i64 r, .int .u16 b], .int .i64 n] w fun e w' => e = .returned (.tuple #[.agg #[.int .i64 0, .int .i64 0, .int .i64 0, .int .i64 0, .int .i64 0, .int .i64 0], .int .i64 0, .int .i64 E]) ∧ Below w.heap.size w w' := by
  have HO := Lib.hid hta
  have d1 : (E != 0) = true := by simpa using hE
  clear hta hE
  have hD := Duo.start w 43 67 #[.int .i64 r, .int .u16 b] #[.int .i64 0, .int .i64 0, .int .i64 0, .int .i64 0, .int .i64 0, .int .i64 0]
  go_enter Try.func19, Try.ntmps19
  go_upto_region 1 with (fail)
  obtain ⟨V, hV⟩ : ∃ V, V = (w.alloc (.cells #[.int .i64 r, .int .u16 b] 43)).alloc (.cells #[.int .i64 0, .int .i64 0, .int .i64 0, .int .i64 0, .int .i64 0, .int .i64 0] 67) := ⟨_, rfl⟩
  rw [← hV] at hD ⊢
  clear hV
  have x0 := hD.one.cell 0
  have x1 := hD.one.cell 1
  have HD := Lib.hid hD
  clear hD
  go_wp2_with (go_at_call 10; refine (HO.out _ HD.out.below).mono ?_; rintro e w1 ⟨rfl, hb1⟩; have HA := Lib.hid (Box.start w1 38 #[.int .i64 0, .int .i64 0]); have HL1 := Lib.hid (HD.out.next hb1).lt; have HL2 := Lib.hid HA.out.lt; replace HD := Lib.hid ((HD.out.next hb1).next HA.out.below); clear hb1 x0 x1; have y0 := HA.out.holds.cell 0; have r0 := HD.out.two.cell 0; have r1 := HD.out.two.cell 1; have r2 := HD.out.two.cell 2; have r3 := HD.out.two.cell 3; have r4 := HD.out.two.cell 4; have r5 := HD.out.two.cell 5; have g0 := HD.out.two.soft 0; have g1 := HD.out.two.soft 1; have g2 := HD.out.two.soft 2; have g3 := HD.out.two.soft 3; have g4 := HD.out.two.soft 4; have g5 := HD.out.two.soft 5)
  refine bodyPost_ret (results_row_two rfl _ _ (w.heap.size + 1) 67 [.int .i64 0, .int .i64 0, .int .i64 0, .int .i64 0, .int .i64 0, .int .i64 0] _ _ _ rfl (HD.out.put6 (.int .i64 0) (.int .i64 0) (.int .i64 0) (.int .i64 0) (.int .i64 0) (.int .i64 0)).two Try.underlying67 rfl ut_size rfl rfl) rfl ?_
  exact ⟨rfl, (HD.out.put6 (.int .i64 0) (.int .i64 0) (.int .i64 0) (.int .i64 0) (.int .i64 0) (.int .i64 0)).below⟩
set_option maxHeartbeats 4000000 in
set_option maxRecDepth 100000 in
theorem autc_no (w : World) (p tp : Option Addr) (r b n E T kt : Int) (hE : ¬ E = 0) (hta : ∀ W, Below w.heap.size w W → Calls Try.prog 10 #[.pointer p, .agg #[.int .i64 r, .int .u16 b], .int .i64 n] W fun e w' => e = .returned (.tuple #[.agg #[.int .i64 T, .int .i64 kt], .int .i64 0]) ∧ Below W.heap.size W w') (huo : ∀ W, Below w.heap.size w W → Calls Try.prog 20 #[.pointer tp, .int .i64 T] W fun e w' => e = .returned (.tuple #[.agg #[.int .i64 0, .int .i64 0, .int .i64 0, .int .i64 0, .int .i64 0, .int .i64 0], .int .i64 E]) ∧ Below W.heap.size W w') : Calls Try.prog 19 #[.pointer p, .pointer tp, .agg #[.int .i64 r, .int .u16 b], .int .i64 n] w fun e w' => e = .returned (.tuple #[.agg #[.int .i64 0, .int .i64 0, .int .i64 0, .int .i64 0, .int .i64 0, .int .i64 0], .int .i64 0, .int .i64 E]) ∧ Below w.heap.size w w' := by
  have HO := Lib.hid hta
  have HF := Lib.hid huo
  have d1 : (E != 0) = true := by simpa using hE
  clear hta huo hE
  have hD := Duo.start w 43 67 #[.int .i64 r, .int .u16 b] #[.int .i64 0, .int .i64 0, .int .i64 0, .int .i64 0, .int .i64 0, .int .i64 0]
  go_enter Try.func19, Try.ntmps19
  go_upto_region 1 with (fail)
  obtain ⟨V, hV⟩ : ∃ V, V = (w.alloc (.cells #[.int .i64 r, .int .u16 b] 43)).alloc (.cells #[.int .i64 0, .int .i64 0, .int .i64 0, .int .i64 0, .int .i64 0, .int .i64 0] 67) := ⟨_, rfl⟩
  rw [← hV] at hD ⊢
  clear hV
  have x0 := hD.one.cell 0
  have x1 := hD.one.cell 1
  have HD := Lib.hid hD
  clear hD
  go_wp2_with (first
    | (go_at_call 10; refine (HO.out _ HD.out.below).mono ?_; rintro e w1 ⟨rfl, hb1⟩; have HA := Lib.hid (Box.start w1 38 #[.int .i64 T, .int .i64 kt]); have HL1 := Lib.hid (HD.out.next hb1).lt; have HL2 := Lib.hid HA.out.lt; replace HD := Lib.hid ((HD.out.next hb1).next HA.out.below); clear hb1 x0 x1; have y0 := HA.out.holds.cell 0)
    | (go_at_call 20; refine (HF.out _ HD.out.below).mono ?_; rintro e w2 ⟨rfl, hb2⟩; have HU := Lib.hid (Box.start w2 67 #[.int .i64 0, .int .i64 0, .int .i64 0, .int .i64 0, .int .i64 0, .int .i64 0]); replace HA := Lib.hid ((HA.out.next hb2).next HU.out.below); replace HD := Lib.hid ((HD.out.next hb2).next HU.out.below); have HLT0 := Lib.hid (show w.heap.size + 1 < w2.heap.size ∧ w.heap.size + 1 < w1.heap.size ∧ w1.heap.size < w2.heap.size from ⟨Nat.lt_of_lt_of_le HL1.out (Nat.le_trans (Nat.le_of_lt HL2.out) hb2.size), HL1.out, Nat.lt_of_lt_of_le HL2.out hb2.size⟩); clear hb2 y0; have r0 := HD.out.two.cell 0; have r1 := HD.out.two.cell 1; have r2 := HD.out.two.cell 2; have r3 := HD.out.two.cell 3; have r4 := HD.out.two.cell 4; have r5 := HD.out.two.cell 5; have g0 := HD.out.two.soft 0; have g1 := HD.out.two.soft 1; have g2 := HD.out.two.soft 2; have g3 := HD.out.two.soft 3; have g4 := HD.out.two.soft 4; have g5 := HD.out.two.soft 5))
  refine bodyPost_ret (results_row_two rfl _ _ (w.heap.size + 1) 67 [.int .i64 0, .int .i64 0, .int .i64 0, .int .i64 0, .int .i64 0, .int .i64 0] _ _ _ rfl (HD.out.put6 (.int .i64 0) (.int .i64 0) (.int .i64 0) (.int .i64 0) (.int .i64 0) (.int .i64 0)).two Try.underlying67 rfl ut_size rfl rfl) rfl ?_
  exact ⟨rfl, (HD.out.put6 (.int .i64 0) (.int .i64 0) (.int .i64 0) (.int .i64 0) (.int .i64 0) (.int .i64 0)).below⟩
set_option maxHeartbeats 4000000 in
set_option maxRecDepth 100000 in
theorem autc_yes (w : World) (p tp : Option Addr) (r b n T kt y m d H M S : Int) (hta : ∀ W, Below w.heap.size w W → Calls Try.prog 10 #[.pointer p, .agg #[.int .i64 r, .int .u16 b], .int .i64 n] W fun e w' => e = .returned (.tuple #[.agg #[.int .i64 T, .int .i64 kt], .int .i64 0]) ∧ Below W.heap.size W w') (huo : ∀ W, Below w.heap.size w W → Calls Try.prog 20 #[.pointer tp, .int .i64 T] W fun e w' => e = .returned (.tuple #[.agg #[.int .i64 y, .int .i64 m, .int .i64 d, .int .i64 H, .int .i64 M, .int .i64 S], .int .i64 0]) ∧ Below W.heap.size W w') : Calls Try.prog 19 #[.pointer p, .pointer tp, .agg #[.int .i64 r, .int .u16 b], .int .i64 n] w fun e w' => e = .returned (.tuple #[.agg #[.int .i64 y, .int .i64 m, .int .i64 d, .int .i64 H, .int .i64 M, .int .i64 S], .int .i64 kt, .int .i64 0]) ∧ Below w.heap.size w w' := by
  have HO := Lib.hid hta
  have HF := Lib.hid huo
  clear hta huo
  have hD := Duo.start w 43 67 #[.int .i64 r, .int .u16 b] #[.int .i64 0, .int .i64 0, .int .i64 0, .int .i64 0, .int .i64 0, .int .i64 0]
  go_enter Try.func19, Try.ntmps19
  go_upto_region 1 with (fail)
  obtain ⟨V, hV⟩ : ∃ V, V = (w.alloc (.cells #[.int .i64 r, .int .u16 b] 43)).alloc (.cells #[.int .i64 0, .int .i64 0, .int .i64 0, .int .i64 0, .int .i64 0, .int .i64 0] 67) := ⟨_, rfl⟩
  rw [← hV] at hD ⊢
  clear hV
  have x0 := hD.one.cell 0
  have x1 := hD.one.cell 1
  have HD := Lib.hid hD
  clear hD
  go_upto_region 7 with (first
    | (go_at_call 10; refine (HO.out _ HD.out.below).mono ?_; rintro e w1 ⟨rfl, hb1⟩; have HA := Lib.hid (Box.start w1 38 #[.int .i64 T, .int .i64 kt]); have HL1 := Lib.hid (HD.out.next hb1).lt; have HL2 := Lib.hid HA.out.lt; replace HD := Lib.hid ((HD.out.next hb1).next HA.out.below); clear hb1 x0 x1; have y0 := HA.out.holds.cell 0)
    | (go_at_call 20; refine (HF.out _ HD.out.below).mono ?_; rintro e w2 ⟨rfl, hb2⟩; have HU := Lib.hid (Box.start w2 67 #[.int .i64 y, .int .i64 m, .int .i64 d, .int .i64 H, .int .i64 M, .int .i64 S]); replace HA := Lib.hid ((HA.out.next hb2).next HU.out.below); replace HD := Lib.hid ((HD.out.next hb2).next HU.out.below); have HLT0 := Lib.hid (show w.heap.size + 1 < w2.heap.size ∧ w.heap.size + 1 < w1.heap.size ∧ w1.heap.size < w2.heap.size from ⟨Nat.lt_of_lt_of_le HL1.out (Nat.le_trans (Nat.le_of_lt HL2.out) hb2.size), HL1.out, Nat.lt_of_lt_of_le HL2.out hb2.size⟩); clear hb2 y0))
  have HLT := Lib.hid (show w.heap.size + 1 < w2.heap.size ∧ w.heap.size + 1 < w1.heap.size ∧ w1.heap.size < w2.heap.size from HLT0.out)
  obtain ⟨b1, hb1⟩ : ∃ b, w1.heap.size = b := ⟨_, rfl⟩
  obtain ⟨b2, hb2⟩ : ∃ b, w2.heap.size = b := ⟨_, rfl⟩
  have HUH := Lib.hid (show Holds _ b2 67 #[.int .i64 y, .int .i64 m, .int .i64 d, .int .i64 H, .int .i64 M, .int .i64 S] by rw [← hb2]; exact HU.out.holds)
  have HAH := Lib.hid (show Holds _ b1 38 #[.int .i64 T, .int .i64 kt] by rw [← hb1]; exact HA.out.holds)
  simp only [hb1, hb2] at HLT ⊢ HD HUH HAH
  clear HU HA hb1 hb2
  generalize (w2.alloc (.cells #[.int .i64 y, .int .i64 m, .int .i64 d, .int .i64 H, .int .i64 M, .int .i64 S] 67)) = V2 at HD HUH HAH ⊢
  replace HD := Lib.hid (HD.out.next (Below.refl _ _).drew)
  replace HUH := Lib.hid (show Holds V2.drew b2 67 #[.int .i64 y, .int .i64 m, .int .i64 d, .int .i64 H, .int .i64 M, .int .i64 S] from HUH.out)
  replace HAH := Lib.hid (show Holds V2.drew b1 38 #[.int .i64 T, .int .i64 kt] from HAH.out)
  have HS := Lib.hid (show V2.drew.cell? ⟨b2, 0, none⟩ = some (.int .i64 y) ∧ V2.drew.cell? ⟨b2, 1, none⟩ = some (.int .i64 m) ∧ V2.drew.cell? ⟨b2, 2, none⟩ = some (.int .i64 d) ∧ V2.drew.cell? ⟨b2, 3, none⟩ = some (.int .i64 H) ∧ V2.drew.cell? ⟨b2, 4, none⟩ = some (.int .i64 M) ∧ V2.drew.cell? ⟨b2, 5, none⟩ = some (.int .i64 S) ∧ V2.drew.cell? ⟨b1, 1, none⟩ = some (.int .i64 kt) from ⟨HUH.out.cell 0, HUH.out.cell 1, HUH.out.cell 2, HUH.out.cell 3, HUH.out.cell 4, HUH.out.cell 5, HAH.out.cell 1⟩)
  refine region_turns (fun (w' : World) => w'.cell? ⟨b2, 0, none⟩ = some (.int .i64 y) ∧ w'.cell? ⟨b2, 1, none⟩ = some (.int .i64 m) ∧ w'.cell? ⟨b2, 2, none⟩ = some (.int .i64 d) ∧ w'.cell? ⟨b2, 3, none⟩ = some (.int .i64 H) ∧ w'.cell? ⟨b2, 4, none⟩ = some (.int .i64 M) ∧ w'.cell? ⟨b2, 5, none⟩ = some (.int .i64 S) ∧ w'.cell? ⟨b1, 1, none⟩ = some (.int .i64 kt)) (fun j => decide (6 ≤ j)) (by kernel_rfl) (HS.out) (fun hS => ?_)
  refine Turns.take hS 0 _ rfl (by kernel_rfl) (by kernel_rfl) (by kernel_rfl) (by kernel_rfl) (fun _ _ _ h => h) (by rfl) (fun w' hS' => by (try dsimp only at hS'); go_split_ands; go_simp; (try with_reducible rfl)) ?_
  simp only [Act.put, List.getElem_toArray, List.getElem_cons_succ, List.getElem_cons_zero, List.setIfInBounds_toArray, List.set_cons_zero, List.set_cons_succ]
  refine Turns.take hS 1 _ rfl (by kernel_rfl) (by kernel_rfl) (by kernel_rfl) (by kernel_rfl) (fun _ _ _ h => h) (by rfl) (fun w' hS' => by (try dsimp only at hS'); go_split_ands; go_simp; (try with_reducible rfl)) ?_
  simp only [Act.put, List.getElem_toArray, List.getElem_cons_succ, List.getElem_cons_zero, List.setIfInBounds_toArray, List.set_cons_zero, List.set_cons_succ]
  refine Turns.take hS 2 _ rfl (by kernel_rfl) (by kernel_rfl) (by kernel_rfl) (by kernel_rfl) (fun _ _ _ h => h) (by rfl) (fun w' hS' => by (try dsimp only at hS'); go_split_ands; go_simp; (try with_reducible rfl)) ?_
  simp only [Act.put, List.getElem_toArray, List.getElem_cons_succ, List.getElem_cons_zero, List.setIfInBounds_toArray, List.set_cons_zero, List.set_cons_succ]
  refine Turns.next 3 rfl (by kernel_rfl) (by rfl) (fun K hK => ?_)
  simp only [List.getElem_toArray, List.getElem_cons_succ, List.getElem_cons_zero]
  refine wp_store_at 67 (.tmp 8) (.tmp 36) rfl (w.heap.size + 1) 0 [.int .i64 y, .int .i64 m, .int .i64 d, .int .i64 H, .int .i64 M, .int .i64 S] ?hs ?hx 67 [.int .i64 0, .int .i64 0, .int .i64 0, .int .i64 0, .int .i64 0, .int .i64 0] HD.out.two ut_size (Nat.le_refl 6) (one_six _ _ _ _ _ _) ?_
  case hs => first | rfl | simp [Act.eval, Act.put]
  case hx => first | rfl | simp [Act.eval, Act.put]
  rw [splice_all ([.int .i64 0, .int .i64 0, .int .i64 0, .int .i64 0, .int .i64 0, .int .i64 0] : List Value) [.int .i64 y, .int .i64 m, .int .i64 d, .int .i64 H, .int .i64 M, .int .i64 S] rfl]
  have hg := grown_row V2.drew (w.heap.size + 1) [.int .i64 y, .int .i64 m, .int .i64 d, .int .i64 H, .int .i64 M, .int .i64 S].toArray
  have hu2 := HUH.out.grown hg (fun e => absurd (Option.some.inj e) (by have := HLT.out; omega))
  have ha2 := HAH.out.grown hg (fun e => absurd (Option.some.inj e) (by have := HLT.out; omega))
  replace HD := Lib.hid (HD.out.answer [.int .i64 y, .int .i64 m, .int .i64 d, .int .i64 H, .int .i64 M, .int .i64 S])
  have HS2 := Lib.hid (show (V2.drew.setRow (w.heap.size + 1) [.int .i64 y, .int .i64 m, .int .i64 d, .int .i64 H, .int .i64 M, .int .i64 S].toArray).cell? ⟨b2, 0, none⟩ = some (.int .i64 y) ∧ (V2.drew.setRow (w.heap.size + 1) [.int .i64 y, .int .i64 m, .int .i64 d, .int .i64 H, .int .i64 M, .int .i64 S].toArray).cell? ⟨b2, 1, none⟩ = some (.int .i64 m) ∧ (V2.drew.setRow (w.heap.size + 1) [.int .i64 y, .int .i64 m, .int .i64 d, .int .i64 H, .int .i64 M, .int .i64 S].toArray).cell? ⟨b2, 2, none⟩ = some (.int .i64 d) ∧ (V2.drew.setRow (w.heap.size + 1) [.int .i64 y, .int .i64 m, .int .i64 d, .int .i64 H, .int .i64 M, .int .i64 S].toArray).cell? ⟨b2, 3, none⟩ = some (.int .i64 H) ∧ (V2.drew.setRow (w.heap.size + 1) [.int .i64 y, .int .i64 m, .int .i64 d, .int .i64 H, .int .i64 M, .int .i64 S].toArray).cell? ⟨b2, 4, none⟩ = some (.int .i64 M) ∧ (V2.drew.setRow (w.heap.size + 1) [.int .i64 y, .int .i64 m, .int .i64 d, .int .i64 H, .int .i64 M, .int .i64 S].toArray).cell? ⟨b2, 5, none⟩ = some (.int .i64 S) ∧ (V2.drew.setRow (w.heap.size + 1) [.int .i64 y, .int .i64 m, .int .i64 d, .int .i64 H, .int .i64 M, .int .i64 S].toArray).cell? ⟨b1, 1, none⟩ = some (.int .i64 kt) from ⟨hu2.cell 0, hu2.cell 1, hu2.cell 2, hu2.cell 3, hu2.cell 4, hu2.cell 5, ha2.cell 1⟩)
  clear hg hu2 ha2
  refine hK.out _ _ (show (fun (w' : World) => w'.cell? ⟨b2, 0, none⟩ = some (.int .i64 y) ∧ w'.cell? ⟨b2, 1, none⟩ = some (.int .i64 m) ∧ w'.cell? ⟨b2, 2, none⟩ = some (.int .i64 d) ∧ w'.cell? ⟨b2, 3, none⟩ = some (.int .i64 H) ∧ w'.cell? ⟨b2, 4, none⟩ = some (.int .i64 M) ∧ w'.cell? ⟨b2, 5, none⟩ = some (.int .i64 S) ∧ w'.cell? ⟨b1, 1, none⟩ = some (.int .i64 kt)) _ from HS2.out) ?_
  clear hK K hS
  have hS := (show (fun (w' : World) => w'.cell? ⟨b2, 0, none⟩ = some (.int .i64 y) ∧ w'.cell? ⟨b2, 1, none⟩ = some (.int .i64 m) ∧ w'.cell? ⟨b2, 2, none⟩ = some (.int .i64 d) ∧ w'.cell? ⟨b2, 3, none⟩ = some (.int .i64 H) ∧ w'.cell? ⟨b2, 4, none⟩ = some (.int .i64 M) ∧ w'.cell? ⟨b2, 5, none⟩ = some (.int .i64 S) ∧ w'.cell? ⟨b1, 1, none⟩ = some (.int .i64 kt)) _ from HS2.out)
  refine Turns.take hS 4 _ rfl (by kernel_rfl) (by kernel_rfl) (by kernel_rfl) (by kernel_rfl) (fun _ _ _ h => h) (by rfl) (fun w' hS' => by (try dsimp only at hS'); go_split_ands; go_simp; (try with_reducible rfl)) ?_
  simp only [Act.put, List.getElem_toArray, List.getElem_cons_succ, List.getElem_cons_zero, List.setIfInBounds_toArray, List.set_cons_zero, List.set_cons_succ]
  refine Turns.take hS 5 _ rfl (by kernel_rfl) (by kernel_rfl) (by kernel_rfl) (by kernel_rfl) (fun _ _ _ h => h) (by rfl) (fun w' hS' => by (try dsimp only at hS'); go_split_ands; go_simp; (try with_reducible rfl)) ?_
  simp only [Act.put, List.getElem_toArray, List.getElem_cons_succ, List.getElem_cons_zero, List.setIfInBounds_toArray, List.set_cons_zero, List.set_cons_succ]
  refine Turns.rest (late_done (by kernel_rfl)) ?_
  refine any_tail 6 (by rfl) (by kernel_rfl) ?_
  simp only [List.drop_succ_cons, List.drop_zero]
  clear hS
  go_wp2
  refine bodyPost_ret (results_row_two rfl _ _ (w.heap.size + 1) 67 [.int .i64 y, .int .i64 m, .int .i64 d, .int .i64 H, .int .i64 M, .int .i64 S] _ _ _ rfl HD.out.two Try.underlying67 rfl ut_size rfl rfl) rfl ?_
  exact ⟨rfl, HD.out.below⟩
end Go.Proofs.Ytmmdkafkfjfgnaa

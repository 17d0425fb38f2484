/- Texts of this seat, one behind the other. -/
import Derived.Test.YtgmeakcfiaopcaaGreatBunA
import Derived.Maps.OwnOps
import Derived.Maps.OwnSet
import Derived.Maps.Views
import Derived.Carry
import Derived.Deep.QuietTactic
import Derived.BigQuiet
import Derived.Outline
import Derived.Deep.CutBlock
import Derived.Deep.RegionHeld3
import Derived.BigRegion
/- Whose time a node goes by: what its calls make of its state, in plain terms. -/
namespace Go.Proofs.YtgmeakcfiaopcaaGreat
open Go.RowKit

/-- A node: itself, its rules, its life, its last number, its root, how long it waited, for how long it hears no other one, and what it knows of each root. -/
structure St where
  me : Int
  tmo : Int
  ign : Int
  boot : Int
  seq : Int
  root : Int
  waited : Int
  quiet : Int
  f : Int → Option (Int × Int)
/-- Is a mark newer? -/
def newM (b1 s1 b2 s2 : Int) : Bool := if b1 = b2 then newB s1 s2 else newB b1 b2
/-- Would it go by a root? -/
def heedB (s : St) (r : Int) : Bool := decide (0 ≤ r ∧ r < s.me ∧ if s.root = s.me then s.quiet = 0 else (s.root = -1 ∨ r ≤ s.root))
def freshB (s : St) (r b q : Int) : Bool := match s.f r with
  | none => true
  | some p => newM b q p.1 p.2
def takeB (s : St) (r b q : Int) : Bool := heedB s r && freshB s r b q
def movB (s : St) (r b : Int) : Bool := decide (r ≠ s.root ∨ b ≠ ((s.f r).getD (0, 0)).1)
def hearV (s : St) (r b q : Int) : Int := if takeB s r b q = true then (if movB s r b = true then 2 else 1) else 0
def hearS (s : St) (r b q : Int) : St := if takeB s r b q = true then { s with root := r, waited := 0, f := fun i => if i = r then some (b, q) else s.f i } else s
def beatB (s : St) : Bool := decide (s.root ≠ s.me ∧ s.tmo ≤ s.waited + 1)
def beatS (s : St) : St := if s.root = s.me then { s with quiet := max 0 (s.quiet - 1) } else if s.waited + 1 < s.tmo then { s with waited := s.waited + 1 } else { s with root := s.me, waited := 0, quiet := s.ign }
def issueS (s : St) : St := if s.root = s.me then { s with seq := nextV s.seq } else s
def issueV (s : St) : Int × Int := if s.root = s.me then (s.boot, nextV s.seq) else (0, 0)
def bootS (s : St) (b : Int) : St := { s with boot := b, seq := 0, root := -1, waited := 0, quiet := 0, f := fun _ => none }
def saidV (s : St) : Int × Int := if s.root = s.me then (s.boot, s.seq) else if s.root = -1 then (0, 0) else (s.f s.root).getD (0, 0)
def saidB (s : St) : Bool := decide (s.root = s.me ∧ s.seq ≠ 0 ∨ s.root ≠ s.me ∧ s.root ≠ -1)
def newS (me tmo ign b : Int) : St := ⟨me, tmo, ign, b, 0, -1, 0, 0, fun _ => none⟩
def goodB (me tmo ign : Int) : Bool := decide (0 ≤ me ∧ me < 64 ∧ 1 ≤ tmo ∧ tmo ≤ 1000 ∧ 0 ≤ ign ∧ ign ≤ 1000)
/-- What holds of every node. -/
structure Inv (s : St) : Prop where
  me : 0 ≤ s.me ∧ s.me < 64
  tmo : 1 ≤ s.tmo ∧ s.tmo ≤ 1000
  ign : 0 ≤ s.ign ∧ s.ign ≤ 1000
  boot : F16 s.boot
  seq : F16 s.seq
  root : -1 ≤ s.root ∧ s.root ≤ s.me
  knows : 0 ≤ s.root → s.root ≠ s.me → ∃ p, s.f s.root = some p
  waited : 0 ≤ s.waited ∧ s.waited < s.tmo
  quiet : 0 ≤ s.quiet ∧ s.quiet ≤ 1000
  still : s.root ≠ s.me → s.quiet = 0
  marks : ∀ i p, s.f i = some p → F16 p.1 ∧ F16 p.2

theorem newM_self (a b : Int) : newM a b a b = false := by
  unfold newM
  rw [if_pos rfl]
  unfold newB
  exact decide_eq_false (by omega)
theorem take_heed {s : St} {r b q : Int} (h : takeB s r b q = true) : heedB s r = true := by
  unfold takeB at h
  simp only [Bool.and_eq_true] at h
  exact h.1
theorem heed_iff (s : St) (r : Int) : heedB s r = true ↔ (0 ≤ r ∧ r < s.me ∧ if s.root = s.me then s.quiet = 0 else (s.root = -1 ∨ r ≤ s.root)) := by
  unfold heedB
  exact decide_eq_true_iff
theorem take_quiet {s : St} {r b q : Int} (hI : Inv s) (h : takeB s r b q = true) : s.quiet = 0 := by
  have h1 := (heed_iff s r).1 (take_heed h)
  by_cases e : s.root = s.me
  · simpa [e] using h1.2.2
  · exact hI.still e
theorem Inv.hear {s : St} (h : Inv s) {r b q : Int} (hb : F16 b) (hq : F16 q) : Inv (hearS s r b q) := by
  unfold hearS
  split
  · rename_i ht
    have h1 := (heed_iff s r).1 (take_heed ht)
    have h2 := take_quiet h ht
    have ht1 := h.tmo
    refine ⟨h.me, h.tmo, h.ign, h.boot, h.seq, ⟨?_, ?_⟩, fun _ _ => ⟨(b, q), ?_⟩, ⟨?_, ?_⟩, h.quiet, fun _ => h2, fun i p hp => ?_⟩
    · show -1 ≤ r
      omega
    · show r ≤ s.me
      omega
    · show (if r = r then some (b, q) else s.f r) = _
      rw [if_pos rfl]
    · exact Int.le_refl 0
    · show 0 < s.tmo
      omega
    · have hp' : (if i = r then some (b, q) else s.f i) = some p := hp
      split at hp'
      · cases hp'
        exact ⟨hb, hq⟩
      · exact h.marks i p hp'
  · exact h
theorem Inv.beat {s : St} (h : Inv s) : Inv (beatS s) := by
  have h1 := h.quiet
  have h2 := h.waited
  have h3 := h.ign
  have h4 := h.tmo
  have h5 := h.me
  unfold beatS
  split
  · rename_i e
    refine ⟨h.me, h.tmo, h.ign, h.boot, h.seq, h.root, h.knows, h.waited, ⟨?_, ?_⟩, fun hn => absurd e hn, h.marks⟩
    · show 0 ≤ max 0 (s.quiet - 1)
      omega
    · show max 0 (s.quiet - 1) ≤ 1000
      omega
  · rename_i e
    split
    · refine ⟨h.me, h.tmo, h.ign, h.boot, h.seq, h.root, h.knows, ⟨?_, ?_⟩, h.quiet, h.still, h.marks⟩
      · show 0 ≤ s.waited + 1
        omega
      · assumption
    · refine ⟨h.me, h.tmo, h.ign, h.boot, h.seq, ⟨?_, Int.le_refl _⟩, fun _ hn => absurd rfl hn, ⟨Int.le_refl 0, ?_⟩, h3, fun hn => absurd rfl hn, h.marks⟩
      · show -1 ≤ s.me
        omega
      · show 0 < s.tmo
        omega
theorem Inv.issue {s : St} (h : Inv s) : Inv (issueS s) := by
  unfold issueS
  split
  · refine ⟨h.me, h.tmo, h.ign, h.boot, ?_, h.root, h.knows, h.waited, h.quiet, h.still, h.marks⟩
    show F16 (nextV s.seq)
    unfold nextV F16
    omega
  · exact h
theorem Inv.reboot {s : St} (h : Inv s) {b : Int} (hb : F16 b) : Inv (bootS s b) := by
  have h4 := h.tmo
  have h5 := h.me
  refine ⟨h.me, h.tmo, h.ign, hb, (⟨by decide, by decide⟩ : F16 0), ⟨(by decide : (-1 : Int) ≤ -1), ?_⟩, fun (h0 : (0 : Int) ≤ -1) => absurd h0 (by decide), ⟨Int.le_refl 0, ?_⟩, ⟨(by decide : (0 : Int) ≤ 0), (by decide : (0 : Int) ≤ 1000)⟩, fun _ => rfl, fun i p hp => by cases hp⟩
  · show -1 ≤ s.me
    omega
  · show 0 < s.tmo
    omega
theorem good_iff (me tmo ign : Int) : goodB me tmo ign = true ↔ (0 ≤ me ∧ me < 64 ∧ 1 ≤ tmo ∧ tmo ≤ 1000 ∧ 0 ≤ ign ∧ ign ≤ 1000) := by
  unfold goodB
  exact decide_eq_true_iff
theorem Inv.new {me tmo ign b : Int} (h : goodB me tmo ign = true) (hb : F16 b) : Inv (newS me tmo ign b) := by
  obtain ⟨h1, h2, h3, h4, h5, h6⟩ := (good_iff me tmo ign).1 h
  refine ⟨⟨h1, h2⟩, ⟨h3, h4⟩, ⟨h5, h6⟩, hb, (⟨by decide, by decide⟩ : F16 0), ⟨(by decide : (-1 : Int) ≤ -1), ?_⟩, fun (h0 : (0 : Int) ≤ -1) => absurd h0 (by decide), ⟨Int.le_refl 0, ?_⟩, ⟨(by decide : (0 : Int) ≤ 0), (by decide : (0 : Int) ≤ 1000)⟩, fun _ => rfl, fun i p hp => by cases hp⟩
  · show -1 ≤ me
    omega
  · show 0 < tmo
    omega
theorem boot_new (me tmo ign b b' : Int) : bootS (newS me tmo ign b) b' = newS me tmo ign b' := rfl
end Go.Proofs.YtgmeakcfiaopcaaGreat

/- The marks that a node knows: a map of its own. -/
namespace Go.Proofs.YtgmeakcfiaopcaaGreat
open Go.RowKit Go.Maps
set_option linter.unusedVariables false
set_option linter.unusedSimpArgs false

def markV (p : Int × Int) : Value := .agg #[.int .u16 p.1, .int .u16 p.2]
def markR (v : Value) : Option (DataW Value × List MemPlace) := some (.held v, [])
theorem keyed : Keyed Tryz.prog 3 := int_keyed Tryz.underlying3
theorem zeroM (w : World) : (zeroValue 99).run Tryz.prog w = .ok (markV (0, 0)) w := by kernel_rfl
/-- Block b is a map that tells f, of at most n entries. -/
def KM (w : World) (b n : Nat) (f : Int → Option (Int × Int)) : Prop :=
  ∃ D, w.ownsMap Tryz.prog 3 markR b n D ∧ (∃ es, D = .map es) ∧ ∀ i, has D (.int .i64 i) = (f i).isSome ∧ ∀ p, f i = some p → ∀ z, D.atKey (.int .i64 i) z = .held (markV p)
section
variable {w w' : World} {b n : Nat} {f : Int → Option (Int × Int)}
theorem KM.made (w : World) : KM (w.alloc (.map #[] 0)) w.heap.size 0 fun _ => none :=
  ⟨.map [], World.ownsMap_made _ _ _ _, ⟨[], rfl⟩, fun i => ⟨rfl, fun p hp => by cases hp⟩⟩
theorem KM.lt (h : KM w b n f) : b < w.heap.size := by
  obtain ⟨D, h1, _⟩ := h
  exact h1.lt
theorem KM.mono (h : KM w b n f) {n' : Nat} (hn : n ≤ n') : KM w b n' f := by
  obtain ⟨D, h1, h2⟩ := h
  exact ⟨D, h1.mono hn, h2⟩
theorem KM.same (h : KM w b n f) (hb : w'.heap[b]? = w.heap[b]?) : KM w' b n f := by
  obtain ⟨D, ⟨es, clock, h1, h2⟩, h3⟩ := h
  exact ⟨D, ⟨es, clock, hb.trans h1, h2⟩, h3⟩
theorem KM.chg {S : Nat → Prop} (h : KM w b n f) (hc : Chg S w w') (hn : ¬ S b) : KM w' b n f := h.same (hc.block b h.lt hn)
theorem KM.below {B : Nat} (h : KM w b n f) (hb : Below B w w') (hB : b < B) : KM w' b n f := h.same (hb.block b hB)
theorem KM.apart (h : KM w b n f) {g : Nat} {t : TypeId} {cs : Array Value} (hg : Holds w g t cs) : g ≠ b := by
  rintro rfl
  obtain ⟨D, ⟨es, clock, h1, _⟩, _⟩ := h
  have e : some (Obj.cells cs t (0, 0)) = some (Obj.map es clock) := hg.symm.trans h1
  cases e
theorem KM.far (h : KM w b n f) {g i : Nat} (hb : b ≠ g) (u : Value) : KM (w.setCell ⟨g, i, none⟩ u) b n f := h.same (Below.heap_setCell w ⟨g, i, none⟩ u b hb)
theorem KM.data {D : DataW Value} (h : ∃ es, D = DataW.map es) (hh : ∀ i, has D (.int .i64 i) = (f i).isSome ∧ ∀ p, f i = some p → ∀ z, D.atKey (.int .i64 i) z = .held (markV p)) (r : Int) : D.atKey (.int .i64 r) (.held (markV (0, 0))) = (.held (markV ((f r).getD (0, 0))) : DataW Value) := by
  obtain ⟨h1, h2⟩ := hh r
  cases hf : f r with
  | none =>
    rw [hf] at h1
    exact atKey_of_not_has h1 _
  | some p => exact h2 p hf _
theorem KM.look (h : KM w b n f) (r : Int) (hr : (Lit.int .i64 r).wf = true) : (Instr.lookup 118 (.map (some b)) (.int .i64 r) true).run Tryz.prog w = .ok (.tuple #[markV ((f r).getD (0, 0)), .bool (f r).isSome]) w := by
  obtain ⟨D, h1, h2, h3⟩ := h
  obtain ⟨v, ps, e1, e2⟩ := h1.look_ok keyed Tryz.underlying118 (zeroM w) (zd := .held (markV (0, 0))) (zp := []) rfl (keyOf_int_mk Tryz.underlying3 hr)
  rw [KM.data h2 h3] at e2
  simp only [markR, Option.some.injEq, Prod.mk.injEq, DataW.held.injEq] at e2
  rw [e1, e2.1, (h3 r).1]
theorem KM.get (h : KM w b n f) (r : Int) (hr : (Lit.int .i64 r).wf = true) : (Instr.lookup 118 (.map (some b)) (.int .i64 r) false).run Tryz.prog w = .ok (markV ((f r).getD (0, 0))) w := by
  obtain ⟨D, h1, h2, h3⟩ := h
  obtain ⟨v, ps, e1, e2⟩ := h1.lookup keyed Tryz.underlying118 (zeroM w) (zd := .held (markV (0, 0))) (zp := []) rfl (keyOf_int_mk Tryz.underlying3 hr)
  rw [KM.data h2 h3] at e2
  simp only [markR, Option.some.injEq, Prod.mk.injEq, DataW.held.injEq] at e2
  rw [e1, e2.1]
theorem KM.put (h : KM w b n f) (hn : n ≤ 100000) (r : Int) (hr : (Lit.int .i64 r).wf = true) (p : Int × Int) : ∃ w', (Instr.mapUpdate 118 (.map (some b)) (.int .i64 r) (markV p)).run Tryz.prog w = .ok () w' ∧ KM w' b (n + 1) (fun i => if i = r then some p else f i) ∧ w.grownBy w' (some b) := by
  obtain ⟨D, h1, h2, h3⟩ := h
  obtain ⟨w', e1, e2, e3⟩ := h1.update keyed Tryz.underlying118 (by unfold maxLen; omega) (val := markV p) (d := .held (markV p)) (ps := []) (keyOf_int_mk Tryz.underlying3 hr) rfl
  have hk : WideAt.IsKeyLit (.int .i64 r) := keyed.key (keyOf_int_mk Tryz.underlying3 hr)
  refine ⟨w', e1, ⟨_, e2, IsMap.put h2 _ _, fun i => ?_⟩, e3⟩
  by_cases hi : i = r
  · subst hi
    simp only [if_pos rfl]
    refine ⟨has_put_same h2 hk _, fun q hq z => ?_⟩
    cases hq
    exact atKey_put_same h2 hk _ _
  · have hne : Lit.int IntKind.i64 i ≠ Lit.int IntKind.i64 r := fun e => hi (by cases e; rfl)
    simp only [if_neg hi]
    refine ⟨(has_put_other hne _).trans (h3 i).1, fun q hq z => (atKey_put_other hne _ _).trans ((h3 i).2 q hq z)⟩
end
end Go.Proofs.YtgmeakcfiaopcaaGreat

/- Package elect: a node, and what it tells. -/
namespace Go.Proofs.YtgmeakcfiaopcaaGreat
open Go.RowKit
set_option linter.unusedVariables false
set_option linter.unusedSimpArgs false

def nodeC (s : St) (b : Nat) : Array Value := #[.int .i64 s.me, .int .i64 s.tmo, .int .i64 s.ign, .int .u16 s.boot, .int .u16 s.seq, .int .i64 s.root, .int .i64 s.waited, .int .i64 s.quiet, .map (some b)]
/-- A node at block g, what it knows at block b. -/
structure En (w : World) (B g b n : Nat) (s : St) : Prop where
  newer : B ≤ g ∧ B ≤ b
  holds : Holds w g 120 (nodeC s b)
  km : KM w b n s.f
  inv : Inv s
/-- The blocks of a node. -/
def epart (g b : Nat) : Nat → Prop := fun k => k = g ∨ k = b
/-- What became of a node: nothing else changed, and its blocks are those that it had, or new. -/
def ENow (B g b n : Nat) (s : St) (w w' : World) : Prop := ∃ b', En w' B g b' n s ∧ Chg (epart g b) w w' ∧ (b' = b ∨ w.heap.size ≤ b')
section
variable {w w' : World} {B g b n : Nat} {s : St}
theorem En.lt (h : En w B g b n s) : g < w.heap.size := h.holds.lt
theorem En.ltb (h : En w B g b n s) : b < w.heap.size := h.km.lt
theorem En.ne (h : En w B g b n s) : g ≠ b := h.km.apart h.holds
theorem En.chg {S : Nat → Prop} (h : En w B g b n s) (hc : Chg S w w') (hn : ∀ k, epart g b k → ¬ S k) : En w' B g b n s := ⟨h.newer, h.holds.chg hc (hn g (.inl rfl)), h.km.chg hc (hn b (.inr rfl)), h.inv⟩
theorem En.below (h : En w B g b n s) (hb : Below w.heap.size w w') : En w' B g b n s := h.chg (Chg.of_below (fun _ => False) hb) (fun _ _ h => h)
theorem En.drewN (h : En w B g b n s) (m : Nat) : En (w.drewN m) B g b n s := h.below (below_drewN (Below.refl _ _) m)
theorem En.mono (h : En w B g b n s) {n' : Nat} (hn : n ≤ n') : En w B g b n' s := ⟨h.newer, h.holds, h.km.mono hn, h.inv⟩
theorem En.cells (h : En w B g b n s) : w.cell? ⟨g, 0, none⟩ = some (.int .i64 s.me) ∧ w.cell? ⟨g, 1, none⟩ = some (.int .i64 s.tmo) ∧ w.cell? ⟨g, 2, none⟩ = some (.int .i64 s.ign) ∧ w.cell? ⟨g, 3, none⟩ = some (.int .u16 s.boot) ∧
    w.cell? ⟨g, 4, none⟩ = some (.int .u16 s.seq) ∧ w.cell? ⟨g, 5, none⟩ = some (.int .i64 s.root) ∧ w.cell? ⟨g, 6, none⟩ = some (.int .i64 s.waited) ∧ w.cell? ⟨g, 7, none⟩ = some (.int .i64 s.quiet) ∧ w.cell? ⟨g, 8, none⟩ = some (.map (some b)) :=
  ⟨h.holds.cell 0, h.holds.cell 1, h.holds.cell 2, h.holds.cell 3, h.holds.cell 4, h.holds.cell 5, h.holds.cell 6, h.holds.cell 7, h.holds.cell 8⟩
theorem ENow.of_below (h : ENow B g b n s w w') {u : World} (hb : Below w'.heap.size w' u) : ENow B g b n s w u := by
  obtain ⟨b', ht, hc, hp⟩ := h
  exact ⟨b', ht.below hb, hc.trans (Chg.of_below (fun _ => False) hb) (fun _ _ h => h.elim), hp⟩
theorem ENow.after {u : World} (hb : Below w.heap.size w u) (h : ENow B g b n s u w') : ENow B g b n s w w' := by
  obtain ⟨b', ht, hc, hp⟩ := h
  exact ⟨b', ht, (Chg.of_below (epart g b) hb).trans hc (fun _ _ h => h), hp.imp id (fun h => Nat.le_trans hb.size h)⟩
theorem ENow.refl (h : En w B g b n s) : ENow B g b n s w w := ⟨b, h, Chg.refl _ _, .inl rfl⟩
theorem ENow.mono (h : ENow B g b n s w w') {n' : Nat} (hn : n ≤ n') : ENow B g b n' s w w' := by
  obtain ⟨b', ht, hc, hp⟩ := h
  exact ⟨b', ht.mono hn, hc, hp⟩
/-- All that the law made lies at B and behind it. -/
theorem ENow.law {W : World} {n0 : Nat} {s0 : St} (h : ENow B g b n s w w') (h0 : En w B g b n0 s0) (hb : Below B W w) : Below B W w' := by
  obtain ⟨b', ht, hc, hp⟩ := h
  refine Below.chg hb hc ?_ (fun k hk => ?_)
  · have := h0.newer
    have := h0.lt
    omega
  · rcases hk with rfl | rfl
    · exact h0.newer.1
    · exact h0.newer.2
theorem En.at (h : En w B g b n s) {B' : Nat} (hg : B' ≤ g) (hb : B' ≤ b) : En w B' g b n s := ⟨⟨hg, hb⟩, h.holds, h.km, h.inv⟩
/-- Nothing of a node changed but its first cells: they are another state's. -/
theorem En.put (h : En w B g b n s) (i : Nat) (u : Value) {s' : St} (hs : (nodeC s b).setIfInBounds i u = nodeC s' b) (hf : s'.f = s.f) (hi : Inv s') : En (w.setCell ⟨g, i, none⟩ u) B g b n s' :=
  ⟨h.newer, by rw [← hs]; exact h.holds.put i u, by rw [hf]; exact h.km.far h.ne.symm u, hi⟩
end
theorem eroot_any (w : World) (B g b n : Nat) (s : St) (h : En w B g b n s) : Calls Tryz.prog 57 #[.pointer (some ⟨g, 0, none⟩)] w fun e w' => e = .returned (.int .i64 s.root) ∧ w = w' := by
  obtain ⟨_, _, _, _, _, c5, _⟩ := h.cells
  clear h
  go_enter Tryz.func57, Tryz.ntmps57
  go_wp2
  go_ret
  exact ⟨rfl, rfl⟩
theorem eroot_nil (w : World) : Calls Tryz.prog 57 #[.pointer none] w fun e w' => e = .returned (.int .i64 (-1)) ∧ w = w' := by
  go_enter Tryz.func57, Tryz.ntmps57
  go_wp2
  go_ret
  exact ⟨rfl, rfl⟩
theorem emine_any (w : World) (B g b n : Nat) (s : St) (h : En w B g b n s) : Calls Tryz.prog 40 #[.pointer (some ⟨g, 0, none⟩)] w fun e w' => e = .returned (.bool (decide (s.root = s.me))) ∧ ∃ nq, w' = w.drewN nq := by
  obtain ⟨c0, _, _, _, _, c5, _⟩ := h.cells
  clear h
  by_cases hm : s.root = s.me
  · rw [decide_eq_true hm]
    have d : (s.root == s.me) = true := by simp [hm]
    clear hm
    go_enter Tryz.func40, Tryz.ntmps40
    go_wp2
    go_quiet (fail)
    go_wp2
    go_ret
    exact ⟨rfl, _, rfl⟩
  · rw [decide_eq_false hm]
    have d : (s.root == s.me) = false := by simp [hm]
    clear hm
    go_enter Tryz.func40, Tryz.ntmps40
    go_wp2
    go_quiet (fail)
    go_wp2
    go_ret
    exact ⟨rfl, _, rfl⟩
theorem emine_nil (w : World) : Calls Tryz.prog 40 #[.pointer none] w fun e w' => e = .returned (.bool false) ∧ ∃ nq, w' = w.drewN nq := by
  go_enter Tryz.func40, Tryz.ntmps40
  go_wp2
  go_quiet (fail)
  go_wp2
  go_ret
  exact ⟨rfl, _, rfl⟩
theorem newB_self (a : Int) : newB a a = false := by
  unfold newB
  exact decide_eq_false (by omega)
theorem mnewer_any (w : World) (b1 s1 b2 s2 : Int) : Calls Tryz.prog 60 #[markV (b1, s1), markV (b2, s2)] w fun e w' => e = .returned (.bool (newM b1 s1 b2 s2)) ∧ Below w.heap.size w w' := by
  unfold markV
  simp only []
  have hb : Below w.heap.size w ((w.alloc (.cells #[.int .u16 b1, .int .u16 s1] 99)).alloc (.cells #[.int .u16 b2, .int .u16 s2] 99)) := (below_alloc w _).alloc (by simp) _
  have hx := newer_any b1 b2
  have hy := newer_any s1 s2
  by_cases he : b1 = b2
  · have e1 : newM b1 s1 b2 s2 = newB s1 s2 := by unfold newM; rw [if_pos he]
    rw [e1]
    have e2 : newB b1 b2 = false := by rw [he]; exact newB_self _
    have d : (b1 == b2) = true := by simp [he]
    rw [e2] at hx
    obtain ⟨V, hV⟩ : ∃ V, newB s1 s2 = V := ⟨_, rfl⟩
    rw [hV] at hy ⊢
    clear he e1 e2 hV
    cases V <;>
    · go_enter Tryz.func60, Tryz.ntmps60
      go_wp2_with (first
        | (go_at_call 72; (with_reducible refine (hx _).mono ?_); rintro e w' ⟨rfl, rfl⟩)
        | (go_at_call 72; (with_reducible refine (hy _).mono ?_); rintro e w' ⟨rfl, rfl⟩))
      go_ret
      exact ⟨rfl, hb⟩
  · have e1 : newM b1 s1 b2 s2 = newB b1 b2 := by unfold newM; rw [if_neg he]
    rw [e1]
    have d : (b1 == b2) = false := by simp [he]
    obtain ⟨V, hV⟩ : ∃ V, newB b1 b2 = V := ⟨_, rfl⟩
    rw [hV] at hx ⊢
    clear he e1 hV
    cases V <;>
    · go_enter Tryz.func60, Tryz.ntmps60
      go_wp2_with (first
        | (go_at_call 72; (with_reducible refine (hx _).mono ?_); rintro e w' ⟨rfl, rfl⟩))
      go_ret
      exact ⟨rfl, hb⟩
/-- What heeds answers. -/
theorem heed_yes {s : St} {r : Int} (h : 0 ≤ r ∧ r < s.me ∧ if s.root = s.me then s.quiet = 0 else (s.root = -1 ∨ r ≤ s.root)) : heedB s r = true := (heed_iff s r).2 h
theorem heed_no {s : St} {r : Int} (h : ¬ (0 ≤ r ∧ r < s.me ∧ if s.root = s.me then s.quiet = 0 else (s.root = -1 ∨ r ≤ s.root))) : heedB s r = false := by
  unfold heedB
  exact decide_eq_false h
theorem heeds_any (w : World) (B g b n : Nat) (s : St) (h : En w B g b n s) (r : Int) : Calls Tryz.prog 59 #[.pointer (some ⟨g, 0, none⟩), .int .i64 r] w fun e w' => e = .returned (.bool (heedB s r)) ∧ ∃ nq, w' = w.drewN nq := by
  obtain ⟨c0, _, _, _, _, c5, _, c7, _⟩ := h.cells
  have hm := fun m => emine_any (w.drewN m) B g b n s (h.drewN m)
  have hm0 := emine_any w B g b n s h
  have hbd := h.inv.root
  clear h
  by_cases h0 : r < 0
  · rw [heed_no (by omega)]
    go_enter Tryz.func59, Tryz.ntmps59
    go_wp2
    go_ret
    exact ⟨rfl, 0, rfl⟩
  · have d0 : decide (r < 0) = false := decide_eq_false h0
    by_cases h1 : s.me ≤ r
    · rw [heed_no (by omega)]
      have d1 : decide (s.me ≤ r) = true := decide_eq_true h1
      go_enter Tryz.func59, Tryz.ntmps59
      go_wp2
      go_ret
      exact ⟨rfl, 0, rfl⟩
    · have d1 : decide (s.me ≤ r) = false := decide_eq_false h1
      by_cases h2 : s.root = s.me
      · rw [decide_eq_true h2] at hm0
        by_cases h3 : s.quiet = 0
        · rw [heed_yes (by rw [if_pos h2]; omega)]
          have d3 : (s.quiet == 0) = true := by simp [h3]
          clear h2 h3
          go_enter Tryz.func59, Tryz.ntmps59
          go_wp2_with (go_at_call 40; refine hm0.mono ?_; rintro e w' ⟨rfl, nq, rfl⟩)
          go_ret
          exact ⟨rfl, _, rfl⟩
        · rw [heed_no (by rw [if_pos h2]; omega)]
          have d3 : (s.quiet == 0) = false := by simp [h3]
          clear h2 h3
          go_enter Tryz.func59, Tryz.ntmps59
          go_wp2_with (go_at_call 40; refine hm0.mono ?_; rintro e w' ⟨rfl, nq, rfl⟩)
          go_ret
          exact ⟨rfl, _, rfl⟩
      · rw [decide_eq_false h2] at hm0
        by_cases h3 : s.root = -1
        · rw [heed_yes (by rw [if_neg h2]; omega)]
          have d3 : (s.root == -1) = true := by simp [h3]
          clear h2 h3
          go_enter Tryz.func59, Tryz.ntmps59
          go_wp2_with (go_at_call 40; refine hm0.mono ?_; rintro e w' ⟨rfl, nq, rfl⟩)
          go_ret
          exact ⟨rfl, _, rfl⟩
        · have d3 : (s.root == -1) = false := by simp [h3]
          by_cases h4 : r ≤ s.root
          · rw [heed_yes (by rw [if_neg h2]; omega)]
            have d4 : decide (r ≤ s.root) = true := decide_eq_true h4
            clear h2 h3
            go_enter Tryz.func59, Tryz.ntmps59
            go_wp2_with (go_at_call 40; refine hm0.mono ?_; rintro e w' ⟨rfl, nq, rfl⟩)
            go_ret
            exact ⟨rfl, _, rfl⟩
          · rw [heed_no (by rw [if_neg h2]; omega)]
            have d4 : decide (r ≤ s.root) = false := decide_eq_false h4
            clear h2 h3
            go_enter Tryz.func59, Tryz.ntmps59
            go_wp2_with (go_at_call 40; refine hm0.mono ?_; rintro e w' ⟨rfl, nq, rfl⟩)
            go_ret
            exact ⟨rfl, _, rfl⟩
/-- Can there be such rules? -/
def rulesB (tmo ign : Int) : Bool := decide (1 ≤ tmo ∧ tmo ≤ 1000 ∧ 0 ≤ ign ∧ ign ≤ 1000)
theorem rules_any (w : World) (tmo ign : Int) : Calls Tryz.prog 52 #[.agg #[.int .i64 tmo, .int .i64 ign]] w fun e w' => e = .returned (.bool (rulesB tmo ign)) ∧ Below w.heap.size w w' := by
  have hb : Below w.heap.size w (w.alloc (.cells #[.int .i64 tmo, .int .i64 ign] 35)) := below_alloc w _
  by_cases h1 : 1 ≤ tmo
  · have d1 : decide (1 ≤ tmo) = true := decide_eq_true h1
    by_cases h2 : tmo ≤ 1000
    · have d2 : decide (tmo ≤ 1000) = true := decide_eq_true h2
      by_cases h3 : 0 ≤ ign
      · have d3 : decide (0 ≤ ign) = true := decide_eq_true h3
        by_cases h4 : ign ≤ 1000
        · have d4 : decide (ign ≤ 1000) = true := decide_eq_true h4
          have e : rulesB tmo ign = true := decide_eq_true ⟨h1, h2, h3, h4⟩
          rw [e]
          clear e
          go_enter Tryz.func52, Tryz.ntmps52
          go_wp2
          go_ret
          exact ⟨rfl, hb⟩
        · have d4 : decide (ign ≤ 1000) = false := decide_eq_false h4
          have e : rulesB tmo ign = false := decide_eq_false (by omega)
          rw [e]
          clear e
          go_enter Tryz.func52, Tryz.ntmps52
          go_wp2
          go_ret
          exact ⟨rfl, hb⟩
      · have d3 : decide (0 ≤ ign) = false := decide_eq_false h3
        have e : rulesB tmo ign = false := decide_eq_false (by omega)
        rw [e]
        clear e
        go_enter Tryz.func52, Tryz.ntmps52
        go_wp2
        go_ret
        exact ⟨rfl, hb⟩
    · have d2 : decide (tmo ≤ 1000) = false := decide_eq_false h2
      have e : rulesB tmo ign = false := decide_eq_false (by omega)
      rw [e]
      clear e
      go_enter Tryz.func52, Tryz.ntmps52
      go_wp2
      go_ret
      exact ⟨rfl, hb⟩
  · have d1 : decide (1 ≤ tmo) = false := decide_eq_false h1
    have e : rulesB tmo ign = false := decide_eq_false (by omega)
    rw [e]
    clear e
    go_enter Tryz.func52, Tryz.ntmps52
    go_wp2
    go_ret
    exact ⟨rfl, hb⟩
end Go.Proofs.YtgmeakcfiaopcaaGreat

/- Package elect: a word is heard. -/
namespace Go.Proofs.YtgmeakcfiaopcaaGreat
open Go.RowKit
set_option linter.unusedVariables false
set_option linter.unusedSimpArgs false

/-- What Hear answers, and what becomes of the node. -/
def Heard (B g b n : Nat) (s : St) (r x q : Int) (w : World) (e : Ending) (w' : World) : Prop := e = .returned (.int .i64 (hearV s r x q)) ∧ ENow B g b (n + 1) (hearS s r x q) w w'
theorem hear_nil (w : World) (r x q : Int) : Calls Tryz.prog 32 #[.pointer none, .int .i64 r, .agg #[.int .u16 x, .int .u16 q]] w fun e w' => e = .returned (.int .i64 0) ∧ Below w.heap.size w w' := by
  have hb : Below w.heap.size w (w.alloc (.cells #[.int .u16 x, .int .u16 q] 99)) := below_alloc w _
  go_enter Tryz.func32, Tryz.ntmps32
  go_wp2
  go_ret
  exact ⟨rfl, hb⟩
/-- A word is refused. -/
theorem hear_no {B g b n : Nat} {s : St} {r x q : Int} (w w' : World) (h : En w B g b n s) (ht : takeB s r x q = false) (hb : Below w.heap.size w w') : Heard B g b n s r x q w (.returned (.int .i64 0)) w' := by
  unfold Heard hearV hearS
  rw [ht]
  exact ⟨rfl, ((ENow.refl h).of_below hb).mono (Nat.le_succ n)⟩
/-- A word is taken. -/
theorem hear_yes {B g b n : Nat} {s : St} {r x q v : Int} {w u w1 : World} (h : En w B g b n s) (hx : F16 x) (hq : F16 q) (ht : takeB s r x q = true) (hv : (if movB s r x = true then 2 else 1) = v) (hb : Below w.heap.size w u)
    (hk : KM w1 b (n + 1) (fun i => if i = r then some (x, q) else s.f i)) (hg : u.grownBy w1 (some b)) : Heard B g b n s r x q w (.returned (.int .i64 v)) ((w1.setCell ⟨g, 5, none⟩ (.int .i64 r)).setCell ⟨g, 6, none⟩ (.int .i64 0)) := by
  have hi := h.inv.hear (r := r) hx hq
  unfold Heard hearV
  unfold hearS at hi ⊢
  rw [ht] at hi ⊢
  simp only [if_pos] at hi ⊢
  have hne := h.ne
  have h1 : Holds w1 g 120 (nodeC s b) := (h.below hb).holds.grown hg (by simpa using hne)
  refine ⟨by rw [hv], b, ⟨h.newer, ?_, (hk.far hne.symm _).far hne.symm _, hi⟩, ?_, .inl rfl⟩
  · exact (h1.put 5 (.int .i64 r)).put 6 (.int .i64 0)
  · have c1 : Chg (epart g b) u w1 := Chg.of_grown hg (fun k e => by cases e; exact .inr rfl)
    have c2 := Chg.set w1 g 5 (.int .i64 r) (S := epart g b) (.inl rfl)
    have c3 := Chg.set (w1.setCell ⟨g, 5, none⟩ (.int .i64 r)) g 6 (.int .i64 0) (S := epart g b) (.inl rfl)
    exact (((Chg.of_below (epart g b) hb).trans c1 (fun _ _ h => h)).trans c2 (fun _ _ h => h)).trans c3 (fun _ _ h => h)
theorem hear_tail {B g b n : Nat} {s : St} {r x q v : Int} {w : World} (h : En w B g b n s) (hn : n ≤ 100000) (hr : (Lit.int .i64 r).wf = true) (hx : F16 x) (hq : F16 q) (ht : takeB s r x q = true) (hv : (if movB s r x = true then 2 else 1) = v) (V : World) (hb : Below w.heap.size w V) (hX : Holds V w.heap.size 99 #[.int .u16 x, .int .u16 q]) :
    V.drew.cell? ⟨w.heap.size, 0, none⟩ = some (.int .u16 x) ∧ V.drew.cell? ⟨w.heap.size, 1, none⟩ = some (.int .u16 q) ∧ V.drew.cell? ⟨g, 8, none⟩ = some (.map (some b)) ∧
    ∃ w1, (Instr.mapUpdate 118 (.map (some b)) (.int .i64 r) (.agg #[.int .u16 x, .int .u16 q])).run Tryz.prog V.drew = .ok () w1 ∧ w1.cell? ⟨g, 5, none⟩ = some (.int .i64 s.root) ∧ w1.frozen? ⟨g, 5, none⟩ = false ∧
      w1.cell? ⟨g, 6, none⟩ = some (.int .i64 s.waited) ∧ w1.frozen? ⟨g, 6, none⟩ = false ∧ Hid (Heard B g b n s r x q w (.returned (.int .i64 v)) ((w1.setCell ⟨g, 5, none⟩ (.int .i64 r)).setCell ⟨g, 6, none⟩ (.int .i64 0))) := by
  have hu : Below w.heap.size w V.drew := hb.drew
  obtain ⟨w1, e1, hk, hg⟩ := (h.below hu).km.put hn r hr (x, q)
  have h1 : Holds w1 g 120 (nodeC s b) := (h.below hu).holds.grown hg (by simpa using h.ne)
  exact ⟨hX.cell 0, hX.cell 1, (h.below hu).holds.cell 8, w1, e1, h1.cell 5, h1.soft 5, h1.cell 6, h1.soft 6, Lib.hid (hear_yes h hx hq ht hv hu hk hg)⟩
theorem hear_any (w : World) (B g b n : Nat) (s : St) (h : En w B g b n s) (hn : n ≤ 100000) (r x q : Int) (hr : (Lit.int .i64 r).wf = true) (hx : F16 x) (hq : F16 q) : Calls Tryz.prog 32 #[.pointer (some ⟨g, 0, none⟩), .int .i64 r, .agg #[.int .u16 x, .int .u16 q]] w (Heard B g b n s r x q w) := by
  have hbw := h.newer
  have hgl := h.lt
  have hbl := h.ltb
  obtain ⟨w0, hw0⟩ : ∃ w0, w0 = w.alloc (.cells #[.int .u16 x, .int .u16 q] 99) := ⟨_, rfl⟩
  have hb0 : Below w.heap.size w w0 := by rw [hw0]; exact below_alloc w _
  have hbox : Holds w0 w.heap.size 99 #[.int .u16 x, .int .u16 q] := by rw [hw0]; exact Holds.new _ _ _
  have h0 := h.below hb0
  have hheed := heeds_any w0 B g b n s h0 r
  have hno := fun w' (ht : takeB s r x q = false) hb => hear_no (r := r) (x := x) (q := q) w w' h ht hb
  cases hh : heedB s r with
  | false =>
    rw [hh] at hheed
    have ht : takeB s r x q = false := by unfold takeB; rw [hh]; rfl
    have HNo := Lib.hid (fun w' => hno w' ht)
    have HB0 := Lib.hid hb0
    clear hno ht hh h0 hbox hb0 h
    rw [hw0] at hheed
    go_enter Tryz.func32, Tryz.ntmps32
    go_wp2_with (go_at_call 59; refine hheed.mono ?_; rintro e w' ⟨rfl, nq, rfl⟩)
    go_ret
    exact HNo.out _ (by rw [← hw0]; exact below_drewN HB0.out nq)
  | true =>
    rw [hh] at hheed
    obtain ⟨hr0, hr1, _⟩ := (heed_iff s r).1 hh
    have hknow := h.inv.knows
    cases hf : s.f r with
    | none =>
      have ht : takeB s r x q = true := by unfold takeB freshB; rw [hh, hf]; rfl
      have hne : r ≠ s.root := by
        rintro rfl
        obtain ⟨p, hp⟩ := hknow hr0 (by omega)
        rw [hf] at hp
        cases hp
      have hv : (if movB s r x = true then 2 else 1) = (2 : Int) := by
        unfold movB
        rw [decide_eq_true (.inl hne)]
        rfl
      have htail := hear_tail h hn hr hx hq ht hv
      have hlk := fun m => (h0.drewN m).km.look r hr
      rw [hf] at hlk
      simp only [markV, Option.getD_none, Option.isSome_none] at hlk
      obtain ⟨c0, _, _, _, _, c5, _, _, c8⟩ := h0.cells
      have d5 : (r != s.root) = true := by simp [hne]
      have HT := Lib.hid htail
      have HB0 := Lib.hid hb0
      have HBX := Lib.hid hbox
      clear htail hb0 hbox hf hv ht hno h h0 hknow hh
      rw [hw0] at hheed c0 c5 c8
      rw [hw0] at hlk
      go_enter Tryz.func32, Tryz.ntmps32
      go_upto_region 7 with (go_at_call 59; refine hheed.mono ?_; rintro e w' ⟨rfl, nq, rfl⟩)
      have hV := (below_drewN HB0.out nq).alloc (o := .cells #[.int .u16 0, .int .u16 0] 99) (below_drewN HB0.out nq).size
      have hX := (HBX.out.drewN nq).alloc (.cells #[.int .u16 0, .int .u16 0] 99)
      rw [hw0] at hV hX
      clear hw0 HB0 HBX hlk c0 c5 c8 hheed
      generalize (((w.alloc (.cells #[.int .u16 x, .int .u16 q] 99)).drewN nq).alloc (.cells #[.int .u16 0, .int .u16 0] 99)) = V at *
      obtain ⟨x0, x1, k8, w1, e1, k5, f5, k6, f6, HF⟩ := HT.out V hV hX
      clear HT hV hX
      go_region
      go_wp2
      go_ret
      exact HF.out
    | some p =>
      obtain ⟨p1, p2⟩ := p
      have hlk := fun m => (h0.drewN m).km.look r hr
      rw [hf] at hlk
      simp only [markV, Option.getD_some, Option.isSome_some] at hlk
      have hfresh : freshB s r x q = newM x q p1 p2 := by unfold freshB; rw [hf]
      have hnew := fun W => mnewer_any W x q p1 p2
      unfold markV at hnew
      simp only [] at hnew
      obtain ⟨c0, _, _, _, _, c5, _, _, c8⟩ := h0.cells
      cases hnn : newM x q p1 p2 with
      | false =>
        have ht : takeB s r x q = false := by unfold takeB; rw [hh, hfresh, hnn]; rfl
        have HNo := Lib.hid (fun w' => hno w' ht)
        have HB0 := Lib.hid hb0
        have hh' := below_drewN hb0
        rw [hnn] at hnew
        clear hno ht hh h0 hbox hb0 h hf hfresh hnn hknow hh'
        rw [hw0] at hheed c0 c5 c8
        rw [hw0] at hlk
        go_enter Tryz.func32, Tryz.ntmps32
        go_wp2_with (first
          | (go_at_call 59; refine hheed.mono ?_; rintro e w' ⟨rfl, nq, rfl⟩)
          | (go_at_call 60; (with_reducible refine (hnew _).mono ?_); rintro e w' ⟨rfl, hb'⟩))
        go_ret
        have hV := (below_drewN HB0.out nq).alloc (o := .cells #[.int .u16 p1, .int .u16 p2] 99) (below_drewN HB0.out nq).size
        rw [hw0] at hV
        exact HNo.out _ (hV.trans (hb'.mono hV.size))
      | true =>
        have ht : takeB s r x q = true := by unfold takeB; rw [hh, hfresh, hnn]; rfl
        rw [hnn] at hnew
        have hcase : ∃ v : Int, (if movB s r x = true then 2 else 1) = v ∧ (((r != s.root) = true ∧ v = 2) ∨ ((r != s.root) = false ∧ (x != p1) = true ∧ v = 2) ∨ ((r != s.root) = false ∧ (x != p1) = false ∧ v = 1)) := by
          unfold movB
          rw [hf]
          simp only [Option.getD_some]
          by_cases hne : r = s.root <;> by_cases hxx : x = p1 <;> simp [hne, hxx]
        obtain ⟨v, hv, hcase⟩ := hcase
        have htail := hear_tail h hn hr hx hq ht hv
        have HT := Lib.hid htail
        have HB0 := Lib.hid hb0
        have HBX := Lib.hid hbox
        have HE := Lib.hid h0
        clear htail hb0 hbox hf hv ht hno h h0 hknow hh hfresh hnn
        rw [hw0] at hheed c0 c5 c8
        rw [hw0] at hlk
        have hstep : ∀ nq w', Below (((w0.drewN nq).alloc (.cells #[.int .u16 p1, .int .u16 p2] 99)).heap.size) ((w0.drewN nq).alloc (.cells #[.int .u16 p1, .int .u16 p2] 99)) w' →
            Below w.heap.size w w' ∧ Holds w' w.heap.size 99 #[.int .u16 x, .int .u16 q] ∧ Holds w' (w.heap.size + 1) 99 #[.int .u16 p1, .int .u16 p2] ∧ w'.cell? ⟨g, 5, none⟩ = some (.int .i64 s.root) := fun nq w' hb' => by
          have hs0 : w0.heap.size = w.heap.size + 1 := by rw [hw0, size_alloc]
          have hV := (below_drewN HB0.out nq).alloc (o := .cells #[.int .u16 p1, .int .u16 p2] 99) (below_drewN HB0.out nq).size
          have hX := (HBX.out.drewN nq).alloc (.cells #[.int .u16 p1, .int .u16 p2] 99)
          have hP := Holds.new (w0.drewN nq) 99 #[.int .u16 p1, .int .u16 p2]
          have hG := (HE.out.drewN nq).holds.alloc (.cells #[.int .u16 p1, .int .u16 p2] 99)
          have hP' : Holds ((w0.drewN nq).alloc (.cells #[.int .u16 p1, .int .u16 p2] 99)) (w.heap.size + 1) 99 #[.int .u16 p1, .int .u16 p2] := by
            rw [← hs0]
            exact hP
          exact ⟨hV.trans (hb'.mono hV.size), hX.below hb' hX.lt, hP'.below hb' hP'.lt, (hG.below hb' hG.lt).cell 5⟩
        rw [hw0] at hstep
        clear HB0 HBX HE hw0
        rcases hcase with ⟨d5, rfl⟩ | ⟨d5, dx, rfl⟩ | ⟨d5, dx, rfl⟩ <;>
        · go_enter Tryz.func32, Tryz.ntmps32
          go_upto_region 7 with (first
            | (go_at_call 59; refine hheed.mono ?_; rintro e w' ⟨rfl, nq, rfl⟩)
            | (go_at_call 60; (with_reducible refine (hnew _).mono ?_); rintro e V ⟨rfl, hb'⟩; obtain ⟨hV, hX, hP, k5⟩ := hstep nq V hb'; have x0 := hX.cell 0; have x1 := hX.cell 1; have p0 := hP.cell 0; have p1 := hP.cell 1))
          obtain ⟨x0, x1, k8, w1, e1, k5, f5, k6, f6, HF⟩ := HT.out V hV hX
          clear HT hV hX hP p0 p1 hstep
          go_region
          go_wp2
          go_ret
          exact HF.out
end Go.Proofs.YtgmeakcfiaopcaaGreat

/- Package elect: rounds, words of its own, new lives, new nodes. -/
namespace Go.Proofs.YtgmeakcfiaopcaaGreat
open Go.RowKit
set_option linter.unusedVariables false
set_option linter.unusedSimpArgs false

theorem beat_nil (w : World) : Calls Tryz.prog 39 #[.pointer none] w fun e w' => e = .returned (.bool false) ∧ w = w' := by
  go_enter Tryz.func39, Tryz.ntmps39
  go_wp2
  go_ret
  exact ⟨rfl, rfl⟩
theorem gself (w : World) (row : Option Nat) : w.grownBy w row := ⟨rfl, rfl, rfl, Nat.le_refl _, fun _ _ _ => rfl⟩
theorem gset (w : World) (nq g i : Nat) (u : Value) : w.grownBy ((w.drewN nq).setCell ⟨g, i, none⟩ u) (some g) := grown_trans (grown_drewN (gself w (some g)) nq) (grown_set _ _ _ _)
/-- What Beat answers, and what becomes of the node. -/
def Beaten (B g b n : Nat) (s : St) (w : World) (e : Ending) (w' : World) : Prop := e = .returned (.bool (beatB s)) ∧ ENow B g b n (beatS s) w w'
theorem ENow.of_grown {w w' : World} {B g b n : Nat} {s' : St} (h : En w' B g b n s') (hg : w.grownBy w' (some g)) : ENow B g b n s' w w' := ⟨b, h, Chg.of_grown hg (fun k e => by cases e; exact .inl rfl), .inl rfl⟩
theorem beat_tail {w : World} {B g b n : Nat} {s : St} (h : En w B g b n s) (hi : Inv { s with root := s.me, waited := 0, quiet := s.ign }) (V : World) (hV : Holds V g 120 (nodeC { s with waited := s.waited + 1 } b)) (hg : w.grownBy V (some g)) :
    V.cell? ⟨g, 0, none⟩ = some (.int .i64 s.me) ∧ V.cell? ⟨g, 2, none⟩ = some (.int .i64 s.ign) ∧ V.cell? ⟨g, 5, none⟩ = some (.int .i64 s.root) ∧ V.cell? ⟨g, 6, none⟩ = some (.int .i64 (s.waited + 1)) ∧ V.cell? ⟨g, 7, none⟩ = some (.int .i64 s.quiet) ∧
    V.frozen? ⟨g, 5, none⟩ = false ∧ V.frozen? ⟨g, 6, none⟩ = false ∧ V.frozen? ⟨g, 7, none⟩ = false ∧
    Hid (ENow B g b n { s with root := s.me, waited := 0, quiet := s.ign } w (((V.setCell ⟨g, 5, none⟩ (.int .i64 s.me)).setCell ⟨g, 6, none⟩ (.int .i64 0)).setCell ⟨g, 7, none⟩ (.int .i64 s.ign))) := by
  have hd : Holds V g 120 (nodeC { s with waited := s.waited + 1 } b) := hV
  have h1 := ((hd.put 5 (.int .i64 s.me)).put 6 (.int .i64 0)).put 7 (.int .i64 s.ign)
  have g1 : w.grownBy V (some g) := hg
  have g2 := grown_trans (grown_trans (grown_trans g1 (grown_set _ g 5 (.int .i64 s.me))) (grown_set _ g 6 (.int .i64 0))) (grown_set _ g 7 (.int .i64 s.ign))
  exact ⟨hd.cell 0, hd.cell 2, hd.cell 5, hd.cell 6, hd.cell 7, hd.soft 5, hd.soft 6, hd.soft 7, Lib.hid (ENow.of_grown ⟨h.newer, h1, h.km.same (g2.block b h.ltb (by simpa using h.ne.symm)), hi⟩ g2)⟩
theorem beat_any (w : World) (B g b n : Nat) (s : St) (h : En w B g b n s) : Calls Tryz.prog 39 #[.pointer (some ⟨g, 0, none⟩)] w (Beaten B g b n s w) := by
  have hm := emine_any w B g b n s h
  obtain ⟨q0, q1⟩ := h.inv.quiet
  obtain ⟨t0, t1⟩ := h.inv.waited
  obtain ⟨o0, o1⟩ := h.inv.tmo
  by_cases hr : s.root = s.me
  · rw [decide_eq_true hr] at hm
    have hB : beatB s = false := by unfold beatB; exact decide_eq_false (fun e => e.1 hr)
    have hI := h.inv.beat
    have hS : beatS s = { s with quiet := max 0 (s.quiet - 1) } := by unfold beatS; rw [if_pos hr]
    rw [hS] at hI
    unfold Beaten
    rw [hB, hS]
    have hfin := fun (nq : Nat) (V : Int) (hV : max 0 (s.quiet - 1) = V) => (h.drewN nq).put 7 (.int .i64 V) (s' := { s with quiet := max 0 (s.quiet - 1) }) (by rw [hV]; rfl) rfl hI
    have HF := Lib.hid hfin
    have hcl := fun nq => (h.drewN nq).cells
    have f7 := fun nq => (h.drewN nq).holds.soft 7
    obtain ⟨_, _, _, _, _, _, _, c7, _⟩ := h.cells
    have e1 := IntWalk.i64_in (s.quiet - 1) (by omega)
    have f7 := h.holds.soft 7
    clear h hI hS hB hfin hcl hr
    by_cases hq : s.quiet = 0
    · have hd : decide (0 < s.quiet - 1) = false := decide_eq_false (by omega)
      go_enter Tryz.func39, Tryz.ntmps39
      go_wp2_with (go_at_call 40; refine hm.mono ?_; rintro e w' ⟨rfl, nq, rfl⟩)
      go_ret
      exact ⟨rfl, ENow.of_grown (HF.out nq _ (by omega)) (gset _ _ _ _ _)⟩
    · have hd : ¬ s.quiet - 1 < 0 := by omega
      have hd2 : decide (s.quiet - 1 < 0) = false := decide_eq_false (by omega)
      go_enter Tryz.func39, Tryz.ntmps39
      go_wp2_with (go_at_call 40; refine hm.mono ?_; rintro e w' ⟨rfl, nq, rfl⟩)
      all_goals go_ret
      all_goals exact ⟨rfl, ENow.of_grown (HF.out nq _ (by omega)) (gset _ _ _ _ _)⟩
  · rw [decide_eq_false hr] at hm
    have e1 := IntWalk.i64_in (s.waited + 1) (by omega)
    have hcl := fun nq => (h.drewN nq).cells
    have f6 := fun nq => (h.drewN nq).holds.soft 6
    have hI := h.inv.beat
    have hset : ∀ nq, Holds ((w.drewN nq).setCell ⟨g, 6, none⟩ (.int .i64 (s.waited + 1))) g 120 (nodeC { s with waited := s.waited + 1 } b) := fun nq => (h.drewN nq).holds.put 6 _
    obtain ⟨_, c1, _, _, _, _, c6, _, _⟩ := h.cells
    have f6 := h.holds.soft 6
    by_cases hlt : s.waited + 1 < s.tmo
    · have hB : beatB s = false := by unfold beatB; exact decide_eq_false (fun e => by omega)
      have hS : beatS s = { s with waited := s.waited + 1 } := by unfold beatS; rw [if_neg hr, if_pos hlt]
      rw [hS] at hI
      unfold Beaten
      rw [hB, hS]
      have hfin := fun (nq : Nat) => (h.drewN nq).put 6 (.int .i64 (s.waited + 1)) (s' := { s with waited := s.waited + 1 }) rfl rfl hI
      have HF := Lib.hid hfin
      have HS := Lib.hid hset
      have d1 : decide (s.waited + 1 < s.tmo) = true := decide_eq_true hlt
      clear hr hB hS hI hfin hset h hcl
      go_enter Tryz.func39, Tryz.ntmps39
      go_upto_region 7 with (go_at_call 40; refine hm.mono ?_; rintro e w' ⟨rfl, n0, rfl⟩)
      have k1 : ((w.drewN n0).setCell ⟨g, 6, none⟩ (.int .i64 (s.waited + 1))).cell? ⟨g, 1, none⟩ = some (.int .i64 s.tmo) := (HS.out n0).cell 1
      have k6 : ((w.drewN n0).setCell ⟨g, 6, none⟩ (.int .i64 (s.waited + 1))).cell? ⟨g, 6, none⟩ = some (.int .i64 (s.waited + 1)) := (HS.out n0).cell 6
      go_quiet (fail)
      go_wp2
      go_ret
      exact ⟨rfl, (ENow.of_grown (HF.out _) (gset _ _ _ _ _)).of_below (below_drewN (Below.refl _ _) _)⟩
    · have hB : beatB s = true := by unfold beatB; exact decide_eq_true ⟨hr, by omega⟩
      have hS : beatS s = { s with root := s.me, waited := 0, quiet := s.ign } := by unfold beatS; rw [if_neg hr, if_neg hlt]
      rw [hS] at hI
      unfold Beaten
      rw [hB, hS]
      have hfin := beat_tail h hI
      have HF := Lib.hid hfin
      have HS := Lib.hid hset
      have d1 : decide (s.waited + 1 < s.tmo) = false := decide_eq_false hlt
      clear hr hB hS hI hfin hset h hcl
      go_enter Tryz.func39, Tryz.ntmps39
      go_upto_region 7 with (go_at_call 40; refine hm.mono ?_; rintro e w' ⟨rfl, n0, rfl⟩)
      have k1 : ((w.drewN n0).setCell ⟨g, 6, none⟩ (.int .i64 (s.waited + 1))).cell? ⟨g, 1, none⟩ = some (.int .i64 s.tmo) := (HS.out n0).cell 1
      have k6 : ((w.drewN n0).setCell ⟨g, 6, none⟩ (.int .i64 (s.waited + 1))).cell? ⟨g, 6, none⟩ = some (.int .i64 (s.waited + 1)) := (HS.out n0).cell 6
      go_quiet (fail)
      go_upto_region 9 with fail
      have hV := ((HS.out n0).drewN nq)
      have hg := grown_drewN (gset w n0 g 6 (.int .i64 (s.waited + 1))) nq
      obtain ⟨y0, y2, y5, y6, y7, z5, z6, z7, HN⟩ := HF.out _ hV hg
      clear HF HS k1 k6 hm f6
      generalize (((w.drewN n0).setCell ⟨g, 6, none⟩ (.int .i64 (s.waited + 1))).drewN nq) = V at *
      clear hV hg
      go_region
      go_wp2
      go_ret
      exact ⟨rfl, HN.out.of_below (Below.refl _ _).drew⟩
end Go.Proofs.YtgmeakcfiaopcaaGreat


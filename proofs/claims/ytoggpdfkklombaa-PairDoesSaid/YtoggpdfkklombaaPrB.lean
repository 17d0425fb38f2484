/- Package pair: can a Pulse be; a node, and what its calls make of it. -/
import Derived.Test.YtoggpdfkklombaaPrA
import Derived.Test.YtoggpdfkklombaaWk
import Derived.Test.YtoggpdfkklombaaFrmKPulse
import Derived.Test.YtoggpdfkklombaaTbA
import Derived.Test.YtoggpdfkklombaaChg
namespace Go.Proofs.Ytoggpdfkklombaa
open Go.RowKit
set_option linter.unusedVariables false
set_option linter.unusedSimpArgs false

/-- Can a Pulse be? -/
def pulseB (f t s : Int) : Bool := decide (0 ≤ f ∧ f ≤ 63) && decide (0 ≤ t ∧ t ≤ 63) && decide (0 ≤ s ∧ s ≤ 1125899906842624)
theorem pulseB_iff (f t s : Int) : pulseB f t s = true ↔ ((0 ≤ f ∧ f ≤ 63) ∧ 0 ≤ t ∧ t ≤ 63) ∧ 0 ≤ s ∧ s ≤ 1125899906842624 := by unfold pulseB; rw [Bool.and_eq_true, Bool.and_eq_true, decide_eq_true_iff, decide_eq_true_iff, decide_eq_true_iff]
theorem pfold (f t s : Int) : ((((true && wokF 0 4) && wokF 1 f) && wokF 1 t) && wokF 4 s) = pulseB f t s := by
  have e0 : wokF 0 4 = true := by decide
  have k1 : ∀ n, wokF 1 n = decide (0 ≤ n ∧ n ≤ 63) := fun n => by rw [Bool.decide_and]; rfl
  have k4 : ∀ n, wokF 4 n = decide (0 ≤ n ∧ n ≤ 1125899906842624) := fun n => by rw [Bool.decide_and]; rfl
  rw [e0, k1, k1, k4]
  rfl
theorem pgood_any (f t s : Int) (w : World) (ff : Fits f) (ft : Fits t) (fs : Fits s) :
    Calls Try.prog 29 #[.iface 36 (.agg #[.int .i64 f, .int .i64 t, .int .i64 s])] w fun e w' => e = .returned (.bool (pulseB f t s)) ∧ Below w.heap.size w w' := by
  have hp := picked_pulse (wgoodP w w.heap.size) (wgoodP_right w w.heap.size) true _ _ _ _ f t s f t s 4 (w.alloc (.cells #[.bool true] 4)) (WOne.start w _ _)
    (wpick _ 0 4 (.inl rfl) ⟨by decide, by decide⟩) (wpick _ 1 f (.inr (.inl rfl)) ff) (wpick _ 1 t (.inr (.inl rfl)) ft) (wpick _ 4 s (.inr (.inr (.inr (.inr rfl)))) fs)
  rw [pfold f t s] at hp
  exact wgood_of w (fun W => by kernel_rfl) hp

/-- A node: its number; does it wait, for the reply to which Pulse; for how many rounds; how often it asked in vain; for how many rounds it rests. -/
structure PS where
  me : Int
  w : Bool
  f : Int
  t : Int
  s : Int
  rounds : Int
  vain : Int
  rests : Int
def newP (me : Int) : PS := ⟨me, false, 0, 0, 0, 0, 0, 0⟩
def stillP (p : PS) : PS := ⟨p.me, false, 0, 0, 0, 0, p.vain, p.rests⟩
/-- Is somebody asked? -/
def askB (p : PS) (tt l : Int) : Bool := !p.w && !(decide (0 < p.rests)) && !(tt == p.me) && pulseB p.me tt l
def askP (p : PS) (tt l : Int) : PS := if askB p tt l = true then ⟨p.me, true, p.me, tt, l, p.rounds, p.vain, p.rests⟩ else p
/-- Is a reply one to the Pulse; is it taken? -/
def askedB (p : PS) (fr tt se : Int) : Bool := (tt == p.me) && (fr == p.t) && (se == p.s)
def takenB (p : PS) (fr tt se got back hops l : Int) : Bool := p.w && askedB p fr tt se && goodT se got back l && decide (0 ≤ hops ∧ hops ≤ 62)
def hearP (p : PS) (fr tt se got back hops l : Int) : PS := if takenB p fr tt se got back hops l = true then ⟨p.me, false, 0, 0, 0, 0, 0, p.rests⟩ else p
/-- A round is over. -/
def beatP (p : PS) : PS :=
  if p.w = false then { p with rests := if p.rests - 1 < 0 then 0 else p.rests - 1 }
  else if p.rounds + 1 < 2 then { p with rounds := p.rounds + 1 }
  else if p.vain = 0 then ⟨p.me, false, 0, 0, 0, 0, 1, 1⟩ else if p.vain = 1 then ⟨p.me, false, 0, 0, 0, 0, 2, 3⟩ else ⟨p.me, false, 0, 0, 0, 0, 0, p.rests⟩
def beatB (p : PS) : Bool := p.w && !(decide (p.rounds + 1 < 2)) && !(decide (p.vain < 2))
/-- What is known of a node. -/
structure PInv (p : PS) : Prop where
  me : 0 ≤ p.me ∧ p.me ≤ 63
  rounds : 0 ≤ p.rounds ∧ p.rounds ≤ 1
  vain : 0 ≤ p.vain ∧ p.vain ≤ 2
  rests : 0 ≤ p.rests ∧ p.rests ≤ 3
  free : p.w = false → p.rounds = 0
  busy : p.w = true → p.rests = 0 ∧ 0 ≤ p.s
theorem PInv.quiet {me v r : Int} (h : 0 ≤ me ∧ me ≤ 63) (hv : 0 ≤ v ∧ v ≤ 2) (hr : 0 ≤ r ∧ r ≤ 3) : PInv ⟨me, false, 0, 0, 0, 0, v, r⟩ :=
  ⟨h, by show (0 : Int) ≤ 0 ∧ (0 : Int) ≤ 1; omega, hv, hr, fun _ => rfl, fun e => by cases e⟩
theorem PInv.new {me : Int} (h : 0 ≤ me ∧ me ≤ 63) : PInv (newP me) := PInv.quiet h (by omega) (by omega)
theorem PInv.ask {p : PS} (h : PInv p) (tt l : Int) : PInv (askP p tt l) := by
  unfold askP
  split
  · rename_i hh
    unfold askB at hh
    rw [Bool.and_eq_true, Bool.and_eq_true, Bool.and_eq_true, pulseB_iff] at hh
    obtain ⟨⟨⟨h1, h2⟩, h3⟩, -, h4⟩ := hh
    have h2' : ¬ 0 < p.rests := by simpa using h2
    have := h.rests
    refine ⟨h.me, h.rounds, h.vain, h.rests, ?_, fun _ => ⟨by show p.rests = 0; omega, h4.1⟩⟩
    intro e
    cases e
  · exact h
theorem PInv.hear {p : PS} (h : PInv p) (fr tt se got back hops l : Int) : PInv (hearP p fr tt se got back hops l) := by
  unfold hearP
  split
  · exact PInv.quiet h.me (by omega) h.rests
  · exact h
theorem PInv.beat {p : PS} (h : PInv p) : PInv (beatP p) := by
  have h1 := h.rests
  have h2 := h.rounds
  have h3 := h.vain
  unfold beatP
  split
  · rename_i hw
    refine ⟨h.me, h.rounds, h.vain, ?_, h.free, fun e => ?_⟩
    · show 0 ≤ (if p.rests - 1 < 0 then 0 else p.rests - 1) ∧ (if p.rests - 1 < 0 then 0 else p.rests - 1) ≤ 3
      split <;> omega
    · exact absurd (hw.symm.trans e) (by decide)
  · rename_i hw
    split
    · rename_i h4
      exact ⟨h.me, ⟨by show 0 ≤ p.rounds + 1; omega, by show p.rounds + 1 ≤ 1; omega⟩, h.vain, h.rests, fun e => absurd e hw, h.busy⟩
    · split
      · exact PInv.quiet h.me (by omega) (by omega)
      · split
        · exact PInv.quiet h.me (by omega) (by omega)
        · exact PInv.quiet h.me (by omega) h.rests

/-- How a node lies. -/
def parC (p : PS) : Array Value := #[.int .i64 p.me, .bool p.w, .int .i64 p.f, .int .i64 p.t, .int .i64 p.s, .int .i64 p.rounds, .int .i64 p.vain, .int .i64 p.rests]
def Par (w : World) (g : Nat) (p : PS) : Prop := Holds w g 68 (parC p)
section
variable {w w' : World} {g : Nat} {p : PS}
theorem Par.c0 (h : Par w g p) : w.cell? ⟨g, 0, none⟩ = some (.int .i64 p.me) := Holds.cell h 0
theorem Par.c1 (h : Par w g p) : w.cell? ⟨g, 1, none⟩ = some (.bool p.w) := Holds.cell h 1
theorem Par.c2 (h : Par w g p) : w.cell? ⟨g, 2, none⟩ = some (.int .i64 p.f) := Holds.cell h 2
theorem Par.c3 (h : Par w g p) : w.cell? ⟨g, 3, none⟩ = some (.int .i64 p.t) := Holds.cell h 3
theorem Par.c4 (h : Par w g p) : w.cell? ⟨g, 4, none⟩ = some (.int .i64 p.s) := Holds.cell h 4
theorem Par.c5 (h : Par w g p) : w.cell? ⟨g, 5, none⟩ = some (.int .i64 p.rounds) := Holds.cell h 5
theorem Par.c6 (h : Par w g p) : w.cell? ⟨g, 6, none⟩ = some (.int .i64 p.vain) := Holds.cell h 6
theorem Par.c7 (h : Par w g p) : w.cell? ⟨g, 7, none⟩ = some (.int .i64 p.rests) := Holds.cell h 7
theorem Par.below {B : Nat} (h : Par w g p) (hb : Below B w w') (hg : g < B) : Par w' g p := Holds.below h hb hg
end
/-- What a node's call that writes leaves: the node, and nothing else that was there is changed. -/
def PGoes (g : Nat) (p' : PS) (w w' : World) : Prop := Par w' g p' ∧ Chg (fun k => k = g) w w'
theorem PGoes.refl {w : World} {g : Nat} {p : PS} (h : Par w g p) : PGoes g p w w := ⟨h, Chg.refl _ _⟩
theorem PGoes.of_below {w w' : World} {g : Nat} {p : PS} (h : Par w g p) (hb : Below w.heap.size w w') : PGoes g p w w' := ⟨h.below hb (Holds.lt h), Chg.of_below _ hb⟩
theorem PGoes.drewN {w w' : World} {g : Nat} {p : PS} (h : PGoes g p w w') (n : Nat) : PGoes g p w (w'.drewN n) := ⟨h.1.drewN n, h.2.drewN n⟩
theorem PGoes.before {w w1 w' : World} {g : Nat} {p : PS} (h : PGoes g p w1 w') (hc : Chg (fun k => k = g) w w1) : PGoes g p w w' := ⟨h.1, hc.trans h.2 (fun _ _ e => e)⟩
/-- While a block's cells are written: nothing else is. -/
structure Wp (w0 : World) (g : Nat) (t : TypeId) (cs : Array Value) (w : World) : Prop where
  node : Holds w g t cs
  chg : Chg (fun k => k = g) w0 w
section
variable {w0 w w' : World} {g : Nat} {t : TypeId} {cs : Array Value}
theorem Wp.start (h : Holds w0 g t cs) : Wp w0 g t cs w0 := ⟨h, Chg.refl _ _⟩
theorem Wp.put (h : Wp w0 g t cs w) (i : Nat) (u : Value) : Wp w0 g t (cs.setIfInBounds i u) (w.setCell ⟨g, i, none⟩ u) :=
  ⟨h.node.put i u, h.chg.trans (Chg.set (S := fun k => k = g) w g i u rfl) (fun _ _ e => e)⟩
theorem Wp.row (h : Wp w0 g t cs w) (l : List Value) : Wp w0 g t l.toArray (w.setRow g l.toArray) :=
  ⟨h.node.row l.toArray, h.chg.trans (Chg.of_grown (grown_row w g l.toArray) (S := fun k => k = g) (fun k e => by cases e; rfl)) (fun _ _ e => e)⟩
theorem Wp.drewN (h : Wp w0 g t cs w) (n : Nat) : Wp w0 g t cs (w.drewN n) := ⟨h.node.drewN n, h.chg.drewN n⟩
end
theorem Wp.to {w0 w : World} {g : Nat} {t : TypeId} {cs cs' : Array Value} (h : Wp w0 g t cs w) (e : cs = cs') : Wp w0 g t cs' w := e ▸ h
theorem Wp.goes {w0 w : World} {g : Nat} {p : PS} (h : Wp w0 g 68 (parC p) w) : PGoes g p w0 w := ⟨h.node, h.chg⟩

theorem one_ints3 (a b c : Int) : ∀ v ∈ ([.int .i64 a, .int .i64 b, .int .i64 c] : List Value), v.oneCell' = true := by
  intro v hv
  simp only [List.mem_cons, List.not_mem_nil, or_false] at hv
  rcases hv with rfl | rfl | rfl <;> rfl
theorem one_par (p : PS) : ∀ v ∈ (parC p).toList, v.oneCell' = true := by
  intro v hv
  unfold parC at hv
  simp only [List.mem_cons, List.not_mem_nil, or_false] at hv
  rcases hv with rfl | rfl | rfl | rfl | rfl | rfl | rfl | rfl <;> rfl
theorem pnew_no (w : World) (me : Int) (h : me < 0 ∨ 63 < me) : Calls Try.prog 15 #[.int .i64 me] w fun e w' => e = .returned (.tuple #[.pointer none, .int .i64 1]) ∧ w = w' := by
  rcases h with h | h
  · have d0 : decide (me < 0) = true := decide_eq_true h
    go_enter Try.func15, Try.ntmps15
    go_wp2
    go_ret2
    exact ⟨rfl, rfl⟩
  · have d0 : decide (me < 0) = false := decide_eq_false (by omega)
    have d1 : decide (64 ≤ me) = true := decide_eq_true (by omega)
    go_enter Try.func15, Try.ntmps15
    go_wp2
    go_ret2
    exact ⟨rfl, rfl⟩
theorem pnew_yes (w : World) (me : Int) (h : 0 ≤ me ∧ me ≤ 63) : Calls Try.prog 15 #[.int .i64 me] w fun e w' => e = .returned (.tuple #[.pointer (some ⟨w.heap.size, 0, none⟩), .int .i64 0]) ∧ Par w' w.heap.size (newP me) ∧ Below w.heap.size w w' := by
  have d0 : decide (me < 0) = false := decide_eq_false (by omega)
  have d1 : decide (64 ≤ me) = false := decide_eq_false (by omega)
  go_enter Try.func15, Try.ntmps15
  go_wp2
  go_ret2
  exact ⟨rfl, Holds.new _ _ _, below_alloc _ _⟩
theorem pwaits_nil (w : World) : Calls Try.prog 20 #[.pointer none] w fun e w' => e = .returned (.bool false) ∧ w = w' := by
  go_enter Try.func20, Try.ntmps20
  go_wp2
  go_ret
  exact ⟨rfl, rfl⟩
theorem pwaits_any (w : World) (g : Nat) (p : PS) (h : Par w g p) : Calls Try.prog 20 #[.pointer (some ⟨g, 0, none⟩)] w fun e w' => e = .returned (.bool p.w) ∧ w = w' := by
  have c1 := h.c1
  clear h
  go_enter Try.func20, Try.ntmps20
  go_wp2
  go_ret
  exact ⟨rfl, rfl⟩
theorem prests_nil (w : World) : Calls Try.prog 21 #[.pointer none] w fun e w' => e = .returned (.int .i64 0) ∧ w = w' := by
  go_enter Try.func21, Try.ntmps21
  go_wp2
  go_ret
  exact ⟨rfl, rfl⟩
theorem prests_any (w : World) (g : Nat) (p : PS) (h : Par w g p) : Calls Try.prog 21 #[.pointer (some ⟨g, 0, none⟩)] w fun e w' => e = .returned (.int .i64 p.rests) ∧ w = w' := by
  have c7 := h.c7
  clear h
  go_enter Try.func21, Try.ntmps21
  go_wp2
  go_ret
  exact ⟨rfl, rfl⟩
theorem pboot_nil (w : World) : Calls Try.prog 16 #[.pointer none] w fun e w' => e = .returned (.tuple #[]) ∧ w = w' := by
  go_enter Try.func16, Try.ntmps16
  go_wp2
  refine bodyPost_ret (results_none rfl _ _ _) rfl ?_
  exact ⟨rfl, rfl⟩
theorem pboot_any (w : World) (g : Nat) (p : PS) (h : Par w g p) : Calls Try.prog 16 #[.pointer (some ⟨g, 0, none⟩)] w fun e w' => e = .returned (.tuple #[]) ∧ PGoes g (newP p.me) w w' := by
  have c0 := h.c0
  have HL := Lib.hid (show Holds w g 68 (parC p).toList.toArray from h)
  have hst := (Wp.start h).row (parC (newP p.me)).toList
  have HE := Lib.hid (show PGoes g (newP p.me) w _ from Wp.goes (p := newP p.me) hst)
  have hsp : splice (parC p).toList 0 (parC (newP p.me)).toList = (parC (newP p.me)).toList := splice_all _ _ rfl
  clear h hst
  go_enter Try.func16, Try.ntmps16
  go_wp2_with (refine wpList_store_at rfl 68 (.tmp 10) (.tmp 9) rfl g 0 (parC (newP p.me)).toList rfl rfl 68 (parC p).toList HL.out (by kernel_rfl) (Nat.le_refl 8) (one_par _) ?_; rw [hsp])
  go_end0
  exact ⟨rfl, HE.out⟩
theorem pstill_any (w : World) (g : Nat) (p : PS) (h : Par w g p) : Calls Try.prog 32 #[.pointer (some ⟨g, 0, none⟩)] w fun e w' => e = .returned (.tuple #[]) ∧ PGoes g (stillP p) w w' := by
  have c1 := h.c1
  have f1 := Holds.soft h 1
  obtain ⟨me, b, f, t, s, ro, va, re⟩ := p
  have h1 := ((Wp.start h).put 1 (.bool false)).to (cs' := [.int .i64 me, .bool false, .int .i64 f, .int .i64 t, .int .i64 s, .int .i64 ro, .int .i64 va, .int .i64 re].toArray) rfl
  have HL := Lib.hid h1.node
  have h2 := h1.row [.int .i64 me, .bool false, .int .i64 0, .int .i64 0, .int .i64 0, .int .i64 ro, .int .i64 va, .int .i64 re]
  have h3 := (h2.put 5 (.int .i64 0)).to (cs' := parC (stillP ⟨me, b, f, t, s, ro, va, re⟩)) rfl
  have HE := Lib.hid (show PGoes g (stillP ⟨me, b, f, t, s, ro, va, re⟩) w _ from h3.goes)
  have g5 := h2.node.soft 5
  have k5 := h2.node.cell 5
  have hsp : splice ([.int .i64 me, .bool false, .int .i64 f, .int .i64 t, .int .i64 s, .int .i64 ro, .int .i64 va, .int .i64 re] : List Value) 2 ([.int .i64 0, .int .i64 0, .int .i64 0] : List Value) = [.int .i64 me, .bool false, .int .i64 0, .int .i64 0, .int .i64 0, .int .i64 ro, .int .i64 va, .int .i64 re] := rfl
  clear h h1 h2 h3
  go_enter Try.func32, Try.ntmps32
  go_wp2_with (refine wpList_store_at rfl 36 (.tmp 9) (.tmp 5) rfl g 2 [.int .i64 0, .int .i64 0, .int .i64 0] rfl rfl 68 [.int .i64 me, .bool false, .int .i64 f, .int .i64 t, .int .i64 s, .int .i64 ro, .int .i64 va, .int .i64 re] HL.out (by kernel_rfl) (by show 5 ≤ 8; omega) (one_ints3 _ _ _) ?_; rw [hsp])
  go_end0
  exact ⟨rfl, HE.out⟩
end Go.Proofs.Ytoggpdfkklombaa

/- The document's node that floods: how it lies in memory; what can be, what is forgotten, what it is. -/
import Derived.Test.YtgmeakcfiaopcaaGreatFlB
import Derived.Test.YtgmeakcfiaopcaaGreatGbD
import Derived.Test.YtgmeakcfiaopcaaGreatElN
import Derived.Deep.QuietTactic
import Derived.BigQuiet
namespace Go.Proofs.YtgmeakcfiaopcaaGreat
open Go.RowKit
set_option linter.unusedVariables false
set_option linter.unusedSimpArgs false

def docV (ge : Nat) (f : FS) (A : Option Addr) (c : Nat) : Array Value := #[.pointer (some ⟨ge, 0, none⟩), .int .i64 f.need, .int .i64 f.drift, .slice A f.L.length c, .int .i64 f.pl, .int .i64 f.pg, .int .i64 f.ph]
/-- The document's node at block gd, whose time it goes by at block ge; rows of entries are younger. -/
structure Df (w : World) (gd ge : Nat) (A : Option Addr) (c : Nat) (f : FS) : Prop where
  lt : ge < gd
  holds : Holds w gd 95 (docV ge f A c)
  row : TRow w (gd + 1) A f.L.length c f.L
  node : Dn w ge f.s
def dpart (gd ge : Nat) : Nat → Prop := fun k => k = gd ∨ k = ge
/-- What becomes of it. -/
def DGoes (gd ge : Nat) (f : FS) (w w' : World) : Prop := ∃ A c, Df w' gd ge A c f ∧ Chg (dpart gd ge) w w'
section
variable {w w' u : World} {gd ge : Nat} {A : Option Addr} {c : Nat} {f : FS}
theorem Df.below (h : Df w gd ge A c f) (hb : Below w.heap.size w w') : Df w' gd ge A c f := ⟨h.lt, h.holds.below hb h.holds.lt, h.row.below hb, h.node.below hb⟩
theorem Df.drewN (h : Df w gd ge A c f) (m : Nat) : Df (w.drewN m) gd ge A c f := h.below (below_drewN (Below.refl _ _) m)
theorem Df.alloc (h : Df w gd ge A c f) (o : Obj) : Df (w.alloc o) gd ge A c f := h.below (below_alloc _ _)
theorem Df.cells (h : Df w gd ge A c f) : w.cell? ⟨gd, 0, none⟩ = some (.pointer (some ⟨ge, 0, none⟩)) ∧ w.cell? ⟨gd, 1, none⟩ = some (.int .i64 f.need) ∧ w.cell? ⟨gd, 2, none⟩ = some (.int .i64 f.drift) ∧ w.cell? ⟨gd, 3, none⟩ = some (.slice A f.L.length c) ∧
    w.cell? ⟨gd, 4, none⟩ = some (.int .i64 f.pl) ∧ w.cell? ⟨gd, 5, none⟩ = some (.int .i64 f.pg) ∧ w.cell? ⟨gd, 6, none⟩ = some (.int .i64 f.ph) :=
  ⟨h.holds.cell 0, h.holds.cell 1, h.holds.cell 2, h.holds.cell 3, h.holds.cell 4, h.holds.cell 5, h.holds.cell 6⟩
theorem DGoes.refl (h : Df w gd ge A c f) : DGoes gd ge f w w := ⟨A, c, h, Chg.refl _ _⟩
theorem DGoes.of_below (h : DGoes gd ge f w w') (hb : Below w'.heap.size w' u) : DGoes gd ge f w u := by
  obtain ⟨A, c, h1, h2⟩ := h
  exact ⟨A, c, h1.below hb, h2.trans (Chg.of_below (fun _ => False) hb) (fun _ _ h => h.elim)⟩
theorem DGoes.trans {f1 : FS} (h1 : Chg (dpart gd ge) w u) (h2 : DGoes gd ge f1 u w') : DGoes gd ge f1 w w' := by
  obtain ⟨A, c, h3, h4⟩ := h2
  exact ⟨A, c, h3, h1.trans h4 (fun _ _ h => h)⟩
/-- Whose time it goes by made a step. -/
theorem Df.node_goes {s' : St} (h : Df w gd ge A c f) (hd : Dn w' ge s') (hg : w.grownBy w' (some ge)) : Df w' gd ge A c (f.at s') ∧ Chg (dpart gd ge) w w' := by
  have hlt := h.lt
  have hc : Chg (fun k => k = ge) w w' := Chg.of_grown hg (fun k e => by cases e; rfl)
  exact ⟨⟨h.lt, h.holds.chg hc (fun e => by omega), h.row.chg hc (fun k hk e => by omega), hd⟩, hc.mono (fun k _ e => .inr e)⟩
/-- One of its cells is written. -/
theorem Df.put {f' : FS} {A' : Option Addr} {c' : Nat} (h : Df w gd ge A c f) (i : Nat) (v : Value) (hv : (docV ge f A c).setIfInBounds i v = docV ge f' A' c') (hs : f'.s = f.s) (hr : TRow w (gd + 1) A' f'.L.length c' f'.L) : Df (w.setCell ⟨gd, i, none⟩ v) gd ge A' c' f' ∧ Chg (dpart gd ge) w (w.setCell ⟨gd, i, none⟩ v) := by
  have hlt := h.lt
  have hc : Chg (fun k => k = gd) w (w.setCell ⟨gd, i, none⟩ v) := Chg.set w gd i v (S := fun k => k = gd) rfl
  refine ⟨⟨h.lt, by rw [← hv]; exact h.holds.put i v, hr.chg hc (fun k hk e => by omega), ?_⟩, hc.mono (fun k _ e => .inl e)⟩
  rw [hs]
  exact h.node.chg hc (fun e => by omega)
end
theorem rtime2_any (t : Int) (w : World) : Calls Tryz.prog 35 #[.int .i64 t] w fun e w' => e = .returned (.bool (timeB t)) ∧ w = w' := by
  by_cases h1 : 0 ≤ t
  · have d1 : decide (0 ≤ t) = true := decide_eq_true h1
    by_cases h2 : t ≤ 1125899906842624
    · have d2 : decide (t ≤ 1125899906842624) = true := decide_eq_true h2
      have e : timeB t = true := decide_eq_true ⟨h1, h2⟩
      rw [e]
      clear e
      go_enter Tryz.func35, Tryz.ntmps35
      go_wp2
      go_ret
      exact ⟨rfl, rfl⟩
    · have d2 : decide (t ≤ 1125899906842624) = false := decide_eq_false h2
      have e : timeB t = false := decide_eq_false (fun k => h2 k.2)
      rw [e]
      clear e
      go_enter Tryz.func35, Tryz.ntmps35
      go_wp2
      go_ret
      exact ⟨rfl, rfl⟩
  · have d1 : decide (0 ≤ t) = false := decide_eq_false h1
    have e : timeB t = false := decide_eq_false (fun k => h1 k.1)
    rw [e]
    clear e
    go_enter Tryz.func35, Tryz.ntmps35
    go_wp2
    go_ret
    exact ⟨rfl, rfl⟩
theorem rfgood_any (w : World) (me tmo ign need drift : Int) : Calls Tryz.prog 5 #[.int .i64 me, .int .i64 tmo, .int .i64 ign, .int .i64 need, .int .i64 drift] w fun e w' => e = .returned (.bool (fgoodB me tmo ign need drift)) ∧ w = w' := by
  have hru := fun W => ergood_any W me tmo ign
  unfold fgoodB
  obtain ⟨R, hR⟩ : ∃ R, goodB me tmo ign = R := ⟨_, rfl⟩
  simp only [hR] at hru ⊢
  clear hR
  obtain ⟨d, e, hd⟩ : ∃ d, decide (1 ≤ need ∧ need ≤ 8 ∧ 0 ≤ drift ∧ drift ≤ 10) = d ∧ (decide (1 ≤ need) = false ∧ d = false ∨ decide (1 ≤ need) = true ∧ decide (need ≤ 8) = false ∧ d = false ∨
      decide (1 ≤ need) = true ∧ decide (need ≤ 8) = true ∧ decide (0 ≤ drift) = false ∧ d = false ∨ decide (1 ≤ need) = true ∧ decide (need ≤ 8) = true ∧ decide (0 ≤ drift) = true ∧ decide (drift ≤ 10) = d) := by
    refine ⟨_, rfl, ?_⟩
    by_cases h1 : 1 ≤ need <;> by_cases h2 : need ≤ 8 <;> by_cases h3 : 0 ≤ drift <;> by_cases h4 : drift ≤ 10 <;> simp [h1, h2, h3, h4]
  rw [e]
  clear e
  cases R with
  | false =>
    clear hd
    go_enter Tryz.func5, Tryz.ntmps5
    go_wp2_with (go_at_call 23; refine (hru _).mono ?_; rintro e wx ⟨rfl, hwx⟩; subst wx)
    go_ret
    exact ⟨rfl, rfl⟩
  | true =>
    rcases hd with ⟨h1, rfl⟩ | ⟨h1, h2, rfl⟩ | ⟨h1, h2, h3, rfl⟩ | ⟨h1, h2, h3, h4⟩
    all_goals
      go_enter Tryz.func5, Tryz.ntmps5
      go_wp2_with (go_at_call 23; refine (hru _).mono ?_; rintro e wx ⟨rfl, hwx⟩; subst wx)
      go_ret
      exact ⟨rfl, rfl⟩
theorem rforget_any (w : World) (gd ge : Nat) (A : Option Addr) (c : Nat) (f : FS) (h : Df w gd ge A c f) : Calls Tryz.prog 37 #[.pointer (some ⟨gd, 0, none⟩)] w fun e w' => e = .returned (.tuple #[]) ∧ DGoes gd ge f.clear w w' := by
  obtain ⟨_, _, _, c3, c4, c5, c6⟩ := h.cells
  have s3 := h.holds.soft 3
  have s4 := h.holds.soft 4
  have s5 := h.holds.soft 5
  have s6 := h.holds.soft 6
  have h3 := h.put (f' := { f with L := [] }) (A' := none) (c' := 0) 3 (.slice none 0 0) rfl rfl (trow_none _ _)
  have h4 := h3.1.put (f' := { f with L := [], pl := 0 }) 4 (.int .i64 0) rfl rfl (trow_none _ _)
  have h5 := h4.1.put (f' := { f with L := [], pl := 0, pg := 0 }) 5 (.int .i64 0) rfl rfl (trow_none _ _)
  have h6 := h5.1.put (f' := f.clear) 6 (.int .i64 0) rfl rfl (trow_none _ _)
  have HE := Lib.hid (show DGoes gd ge f.clear w _ from ⟨_, _, h6.1, ((h3.2.trans h4.2 (fun _ _ h => h)).trans h5.2 (fun _ _ h => h)).trans h6.2 (fun _ _ h => h)⟩)
  clear h h3 h4 h5 h6
  go_enter Tryz.func37, Tryz.ntmps37
  go_wp2
  go_end0
  exact ⟨rfl, HE.out⟩
theorem rmine2_any (w : World) (gd ge : Nat) (A : Option Addr) (c : Nat) (f : FS) (h : Df w gd ge A c f) : Calls Tryz.prog 45 #[.pointer (some ⟨gd, 0, none⟩)] w fun e w' => e = .returned (.bool (minB f)) ∧ ∃ nq, w' = w.drewN nq := by
  obtain ⟨c0, _⟩ := h.cells
  obtain ⟨d0, _, _, _, _, d5, _⟩ := h.node.cells
  clear h
  unfold minB
  by_cases hm : f.s.root = f.s.me
  · rw [decide_eq_true hm]
    have d : (f.s.root == f.s.me) = true := by simp [hm]
    clear hm
    go_enter Tryz.func45, Tryz.ntmps45
    go_wp2
    go_quiet (fail)
    go_wp2
    go_ret
    exact ⟨rfl, _, rfl⟩
  · rw [decide_eq_false hm]
    have d : (f.s.root == f.s.me) = false := by simp [hm]
    clear hm
    go_enter Tryz.func45, Tryz.ntmps45
    go_wp2
    go_quiet (fail)
    go_wp2
    go_ret
    exact ⟨rfl, _, rfl⟩
theorem rsynced_any (w : World) (gd ge : Nat) (A : Option Addr) (c : Nat) (f : FS) (h : Df w gd ge A c f) : Calls Tryz.prog 47 #[.pointer (some ⟨gd, 0, none⟩)] w fun e w' => e = .returned (.bool (synB f)) ∧ ∃ nq, w' = w.drewN nq := by
  obtain ⟨c0, c1, _, c3, _⟩ := h.cells
  have hm := fun m => rmine2_any (w.drewN m) gd ge A c f (h.drewN m)
  have hcap := h.row.cap_le
  have hmx := h.row.max
  have hsyn : synB f = true ∧ minB f = true ∨ minB f = false ∧ decide (f.need ≤ (f.L.length : Int)) = synB f := by
    unfold synB minB
    by_cases e : f.s.root = f.s.me <;> simp [e]
  obtain ⟨m, hmm⟩ : ∃ m, minB f = m := ⟨_, rfl⟩
  obtain ⟨V, hV⟩ : ∃ V, synB f = V := ⟨_, rfl⟩
  obtain ⟨N, hN⟩ : ∃ N, f.L.length = N := ⟨_, rfl⟩
  simp only [hmm, hV, hN] at hm hsyn c3 hcap ⊢
  clear hmm hV hN h
  rcases hsyn with ⟨rfl, rfl⟩ | ⟨rfl, d⟩
  all_goals
    go_enter Tryz.func47, Tryz.ntmps47
    go_wp2
    go_quiet ((go_at_call 45; refine (hm _).mono ?_; rintro e wx ⟨rfl, nq, rfl⟩; first | exact ⟨rfl, _, rfl⟩ | exact ⟨rfl, _, fdrew_two _ _ _⟩ | exact ⟨rfl, _, fdrew_drew _ _ _ _⟩))
    go_wp2
    go_ret
    exact ⟨rfl, _, rfl⟩
theorem rfnew_any (w : World) (me tmo ign need drift x : Int) : Calls Tryz.prog 14 #[.int .i64 me, .int .i64 tmo, .int .i64 ign, .int .i64 need, .int .i64 drift, .int .u16 x] w fun e w' =>
    ∃ gd ge, e = .returned (.pointer (some ⟨gd, 0, none⟩)) ∧ Df w' gd ge none 0 (newF me tmo ign need drift x) ∧ w.heap.size ≤ ge ∧ Below w.heap.size w w' := by
  have hnew := fun W => rnew_any W me tmo ign x
  go_enter Tryz.func14, Tryz.ntmps14
  go_wp2_with (go_at_call 30; refine (hnew _).mono ?_; rintro e w2 ⟨rfl, hd, hb2⟩)
  go_ret
  exact ⟨w2.heap.size, w.heap.size, rfl, ⟨hd.lt, Holds.new _ _ _, trow_none _ _, hd.below (below_alloc _ _)⟩, Nat.le_refl _, hb2.alloc hb2.size _⟩
end Go.Proofs.YtgmeakcfiaopcaaGreat

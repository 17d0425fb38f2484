/- Package level: can a Find be; a node, and what its calls make of it. -/
import Derived.Test.YtnhjjgopkfoncaaWk
import Derived.Test.YtnhjjgopkfoncaaTbM
import Derived.Test.YtnhjjgopkfoncaaFrmKFind
namespace Go.Proofs.Ytnhjjgopkfoncaa
open Go.RowKit
set_option linter.unusedVariables false
set_option linter.unusedSimpArgs false

/-- Can a Find be? -/
def findB (a l : Int) : Bool := decide (0 ≤ a ∧ a ≤ 63) && decide (0 ≤ l ∧ l ≤ 63)
theorem findB_iff (a l : Int) : findB a l = true ↔ (0 ≤ a ∧ a ≤ 63) ∧ 0 ≤ l ∧ l ≤ 63 := by unfold findB; rw [Bool.and_eq_true, decide_eq_true_iff, decide_eq_true_iff]
theorem ffold (a l : Int) : (((true && wokF 0 2) && wokF 1 a) && wokF 2 l) = findB a l := by
  have e0 : wokF 0 2 = true := by decide
  have k1 : ∀ n, wokF 1 n = decide (0 ≤ n ∧ n ≤ 63) := fun n => by rw [Bool.decide_and]; rfl
  have k2 : ∀ n, wokF 2 n = decide (0 ≤ n ∧ n ≤ 63) := fun n => by rw [Bool.decide_and]; rfl
  rw [e0, k1, k2]
  rfl
theorem fgood_any (a l : Int) (w : World) (fa : Fits a) (fl : Fits l) :
    Calls Try.prog 15 #[.iface 29 (.agg #[.int .i64 a, .int .i64 l])] w fun e w' => e = .returned (.bool (findB a l)) ∧ Below w.heap.size w w' := by
  have hp := picked_find (wgoodP w w.heap.size) (wgoodP_right w w.heap.size) true _ _ _ a l a l 2 (w.alloc (.cells #[.bool true] 4)) (WOne.start w _ _)
    (wpick _ 0 2 (.inl rfl) ⟨by decide, by decide⟩) (wpick _ 1 a (.inr (.inl rfl)) fa) (wpick _ 2 l (.inr (.inr (.inl rfl))) fl)
  rw [ffold a l] at hp
  exact wgood_of w (fun W => by kernel_rfl) hp

/-- A node: its number, its level, its parent. -/
structure LS where
  me : Int
  level : Int
  parent : Int
def newL (me : Int) : LS := ⟨me, -1, -1⟩
/-- What a word of a node makes of it, where it would be at so many steps by that. -/
def heedL (s : LS) (a now : Int) : LS :=
  if 63 < now then (if a = s.parent then newL s.me else s)
  else if a = s.parent ∨ s.level = -1 ∨ now < s.level then ⟨s.me, now, a⟩ else s
/-- Is a word heeded? -/
def heardB (s : LS) (a l : Int) : Bool := findB a l && !(a == s.me)
def hearL (s : LS) (a l : Int) : LS := if heardB s a l = true then heedL s a (l + 1) else s
/-- Are two of the same node unlike? -/
def otherL (s s' : LS) : Bool := (s'.level != s.level) || (s'.parent != s.parent)
/-- What is known of a node. -/
structure LInv (s : LS) : Prop where
  me : 0 ≤ s.me ∧ s.me ≤ 63
  has : (s.level = -1 ∧ s.parent = -1) ∨ (1 ≤ s.level ∧ s.level ≤ 63 ∧ 0 ≤ s.parent ∧ s.parent ≤ 63 ∧ s.parent ≠ s.me)
theorem LInv.new {me : Int} (h : 0 ≤ me ∧ me ≤ 63) : LInv (newL me) := ⟨h, .inl ⟨rfl, rfl⟩⟩
theorem LInv.hear {s : LS} (h : LInv s) (a l : Int) : LInv (hearL s a l) := by
  unfold hearL
  split
  · rename_i hh
    unfold heardB at hh
    rw [Bool.and_eq_true, findB_iff] at hh
    obtain ⟨⟨⟨a0, a1⟩, l0, l1⟩, hne⟩ := hh
    have hne' : a ≠ s.me := by simpa using hne
    unfold heedL
    split
    · split
      · exact LInv.new h.me
      · exact h
    · split
      · exact ⟨h.me, .inr ⟨by show 1 ≤ l + 1; omega, by show l + 1 ≤ 63; omega, a0, a1, hne'⟩⟩
      · exact h
  · exact h
theorem hearL_me (s : LS) (a l : Int) : (hearL s a l).me = s.me := by
  unfold hearL heedL newL
  split
  · split
    · split <;> rfl
    · split <;> rfl
  · rfl

/-- How a node lies. -/
def levC (s : LS) : Array Value := #[.int .i64 s.me, .int .i64 s.level, .int .i64 s.parent]
def Lev (w : World) (g : Nat) (s : LS) : Prop := Holds w g 47 (levC s)
section
variable {w w' : World} {g : Nat} {s : LS}
theorem Lev.c0 (h : Lev w g s) : w.cell? ⟨g, 0, none⟩ = some (.int .i64 s.me) := Holds.cell h 0
theorem Lev.c1 (h : Lev w g s) : w.cell? ⟨g, 1, none⟩ = some (.int .i64 s.level) := Holds.cell h 1
theorem Lev.c2 (h : Lev w g s) : w.cell? ⟨g, 2, none⟩ = some (.int .i64 s.parent) := Holds.cell h 2
theorem Lev.below {B : Nat} (h : Lev w g s) (hb : Below B w w') (hg : g < B) : Lev w' g s := Holds.below h hb hg
theorem Lev.set (h : Lev w g s) (l p : Int) : Lev ((w.setCell ⟨g, 1, none⟩ (.int .i64 l)).setCell ⟨g, 2, none⟩ (.int .i64 p)) g ⟨s.me, l, p⟩ := (h.put 1 (.int .i64 l)).put 2 (.int .i64 p)
end
/-- What a node's call that writes leaves: the node, and nothing else that was there is changed. -/
def LGoes (g : Nat) (s' : LS) (w w' : World) : Prop := Lev w' g s' ∧ Chg (fun k => k = g) w w'
theorem LGoes.refl {w : World} {g : Nat} {s : LS} (h : Lev w g s) : LGoes g s w w := ⟨h, Chg.refl _ _⟩
theorem LGoes.of_below {w w' : World} {g : Nat} {s : LS} (h : Lev w g s) (hb : Below w.heap.size w w') : LGoes g s w w' := ⟨h.below hb (Holds.lt h), Chg.of_below _ hb⟩
theorem LGoes.drewN {w w' : World} {g : Nat} {s : LS} (h : LGoes g s w w') (n : Nat) : LGoes g s w (w'.drewN n) := ⟨h.1.drewN n, h.2.drewN n⟩
theorem LGoes.before {w w1 w' : World} {g : Nat} {s : LS} (h : LGoes g s w1 w') (hc : Chg (fun k => k = g) w w1) : LGoes g s w w' := ⟨h.1, hc.trans h.2 (fun _ _ e => e)⟩
theorem LGoes.set {w : World} {g : Nat} {s : LS} (h : Lev w g s) (l p : Int) : LGoes g ⟨s.me, l, p⟩ w ((w.setCell ⟨g, 1, none⟩ (.int .i64 l)).setCell ⟨g, 2, none⟩ (.int .i64 p)) :=
  ⟨h.set l p, (Chg.set (S := fun k => k = g) w g 1 (.int .i64 l) rfl).trans (Chg.set (S := fun k => k = g) _ g 2 (.int .i64 p) rfl) (fun _ _ e => e)⟩

theorem lnew_no (w : World) (me : Int) (h : me < 0 ∨ 63 < me) : Calls Try.prog 7 #[.int .i64 me] w fun e w' => e = .returned (.tuple #[.pointer none, .int .i64 1]) ∧ w = w' := by
  rcases h with h | h
  · have d0 : decide (me < 0) = true := decide_eq_true h
    go_enter Try.func7, Try.ntmps7
    go_wp2
    go_ret2
    exact ⟨rfl, rfl⟩
  · have d0 : decide (me < 0) = false := decide_eq_false (by omega)
    have d1 : decide (64 ≤ me) = true := decide_eq_true (by omega)
    go_enter Try.func7, Try.ntmps7
    go_wp2
    go_ret2
    exact ⟨rfl, rfl⟩
theorem lnew_yes (w : World) (me : Int) (h : 0 ≤ me ∧ me ≤ 63) : Calls Try.prog 7 #[.int .i64 me] w fun e w' => e = .returned (.tuple #[.pointer (some ⟨w.heap.size, 0, none⟩), .int .i64 0]) ∧ Lev w' w.heap.size (newL me) ∧ Below w.heap.size w w' := by
  have d0 : decide (me < 0) = false := decide_eq_false (by omega)
  have d1 : decide (64 ≤ me) = false := decide_eq_false (by omega)
  go_enter Try.func7, Try.ntmps7
  go_wp2
  go_ret2
  exact ⟨rfl, Holds.new _ _ _, below_alloc _ _⟩
theorem llose_nil (w : World) : Calls Try.prog 8 #[.pointer none] w fun e w' => e = .returned (.tuple #[]) ∧ w = w' := by
  go_enter Try.func8, Try.ntmps8
  go_wp2
  refine bodyPost_ret (results_none rfl _ _ _) rfl ?_
  exact ⟨rfl, rfl⟩
theorem llose_any (w : World) (g : Nat) (s : LS) (h : Lev w g s) : Calls Try.prog 8 #[.pointer (some ⟨g, 0, none⟩)] w fun e w' => e = .returned (.tuple #[]) ∧ LGoes g (newL s.me) w w' := by
  have c1 := h.c1
  have c2 := h.c2
  have f1 := Holds.soft h 1
  have f2 := Holds.soft h 2
  have HE := Lib.hid (show LGoes g (newL s.me) w _ from LGoes.set h (-1) (-1))
  clear h
  go_enter Try.func8, Try.ntmps8
  go_wp2
  go_end0
  exact ⟨rfl, HE.out⟩
theorem llevel_nil (w : World) : Calls Try.prog 10 #[.pointer none] w fun e w' => e = .returned (.int .i64 (-1)) ∧ w = w' := by
  go_enter Try.func10, Try.ntmps10
  go_wp2
  go_ret
  exact ⟨rfl, rfl⟩
theorem llevel_any (w : World) (g : Nat) (s : LS) (h : Lev w g s) : Calls Try.prog 10 #[.pointer (some ⟨g, 0, none⟩)] w fun e w' => e = .returned (.int .i64 s.level) ∧ w = w' := by
  have c1 := h.c1
  clear h
  go_enter Try.func10, Try.ntmps10
  go_wp2
  go_ret
  exact ⟨rfl, rfl⟩
theorem lparent_nil (w : World) : Calls Try.prog 11 #[.pointer none] w fun e w' => e = .returned (.int .i64 (-1)) ∧ w = w' := by
  go_enter Try.func11, Try.ntmps11
  go_wp2
  go_ret
  exact ⟨rfl, rfl⟩
theorem lparent_any (w : World) (g : Nat) (s : LS) (h : Lev w g s) : Calls Try.prog 11 #[.pointer (some ⟨g, 0, none⟩)] w fun e w' => e = .returned (.int .i64 s.parent) ∧ w = w' := by
  have c2 := h.c2
  clear h
  go_enter Try.func11, Try.ntmps11
  go_wp2
  go_ret
  exact ⟨rfl, rfl⟩
end Go.Proofs.Ytnhjjgopkfoncaa

/- The document's source: how it lies, told by the program's state; Put, Beat, Time. -/
import Derived.Test.YtgmeakcfiaopcaaGreatScE
namespace Go.Proofs.YtgmeakcfiaopcaaGreat
open Go.RowKit
set_option linter.unusedVariables false
set_option linter.unusedSimpArgs false

def dsC (lim lo off hp ro bo age : Int) (has : Bool) : Array Value := #[.int .i64 lim, .int .i64 lo, .int .i64 off, .int .i64 hp, .int .i64 ro, .int .u16 bo, .int .i64 age, .bool has]
/-- The document's source at block g, of what the program's knows. -/
def Ds (w : World) (g : Nat) (a : AS) : Prop := ∃ lo off hp ro bo age, Holds w g 53 (dsC a.lim lo off hp ro bo age (afreshB a)) ∧ (0 ≤ age ∧ age ≤ a.lim) ∧ (afreshB a = true → lo = a.lo ∧ off = a.off ∧ hp = a.hp ∧ ro = a.ro ∧ bo = a.bo ∧ age + a.left = a.lim)
theorem Ds.lt {w : World} {g : Nat} {a : AS} (h : Ds w g a) : g < w.heap.size := by
  obtain ⟨_, _, _, _, _, _, h1, _⟩ := h
  exact h1.lt
theorem Ds.chg {w w' : World} {g : Nat} {a : AS} {S : Nat → Prop} (h : Ds w g a) (hc : Chg S w w') (hS : ¬ S g) : Ds w' g a := by
  obtain ⟨lo, off, hp, ro, bo, age, h1, h2⟩ := h
  exact ⟨lo, off, hp, ro, bo, age, h1.chg hc hS, h2⟩
theorem Ds.below {w w' : World} {g : Nat} {a : AS} (h : Ds w g a) (hb : Below w.heap.size w w') : Ds w' g a := h.chg (Chg.of_below (fun _ => False) hb) (fun e => e)
theorem Ds.drewN {w : World} {g : Nat} {a : AS} (h : Ds w g a) (m : Nat) : Ds (w.drewN m) g a := h.below (below_drewN (Below.refl _ _) m)
theorem Ds.alloc {w : World} {g : Nat} {a : AS} (h : Ds w g a) (o : Obj) : Ds (w.alloc o) g a := h.below (below_alloc _ _)
theorem Ds.apart {w : World} {g : Nat} {a : AS} (h : Ds w g a) {o : Nat} {ty : TypeId} {cs : Array Value} (HO : Holds w o ty cs) (hT : ty ≠ 53) : o ≠ g := by
  obtain ⟨_, _, _, _, _, _, h1, _⟩ := h
  exact HO.apart h1 hT
theorem Ds.new (w : World) (lim : Int) (h : 1 ≤ lim) : Ds (w.alloc (.cells #[.int .i64 lim, .int .i64 0, .int .i64 0, .int .i64 0, .int .i64 0, .int .u16 0, .int .i64 0, .bool false] 53)) w.heap.size (newA lim) :=
  ⟨0, 0, 0, 0, 0, 0, Holds.new _ _ _, ⟨by omega, by show 0 ≤ lim; omega⟩, fun k => by have k' : afreshB (newA lim) = false := rfl; rw [k'] at k; cases k⟩
/-- What a step of it leaves. -/
def DsGoes (g : Nat) (a : AS) (w w' : World) : Prop := Ds w' g a ∧ Chg (fun k => k = g) w w'
theorem one_ds (a b c d e f g : Int) (h : Bool) : ∀ v ∈ ([.int .i64 a, .int .i64 b, .int .i64 c, .int .i64 d, .int .i64 e, .int .u16 f, .int .i64 g, .bool h] : List Value), v.oneCell' = true := by
  intro v hv
  simp only [List.mem_cons, List.not_mem_nil, or_false] at hv
  rcases hv with rfl | rfl | rfl | rfl | rfl | rfl | rfl | rfl <;> rfl
/-- Nothing was asked any more. -/
theorem Ds.drop {w : World} {g : Nat} {a : AS} (h : Ds w g a) (hI : AInv a) : DsGoes g (dropA a) w (w.setCell ⟨g, 7, none⟩ (.bool false)) := by
  obtain ⟨lo, off, hp, ro, bo, age, h1, h2, h3⟩ := h
  have k := (Wp.start h1).put 7 (.bool false)
  exact ⟨⟨lo, off, hp, ro, bo, age, k.node, h2, fun e => by have e' : afreshB (dropA a) = false := rfl; rw [e'] at e; cases e⟩, k.chg⟩
set_option maxHeartbeats 4000000 in
set_option maxRecDepth 100000 in
theorem dput_any (w : World) (g : Nat) (a : AS) (h : Ds w g a) (hI : AInv a) (lo off hp ro bo : Int) : Calls Tryz.prog 20 #[.pointer (some ⟨g, 0, none⟩), .agg #[.int .i64 lo, .int .i64 off, .int .i64 hp], .int .i64 ro, .int .u16 bo] w fun e w' => e = .returned (.int .i64 (putV lo off hp ro)) ∧ DsGoes g (putA a lo off hp ro bo) w w' := by
  have hlt := h.lt
  have HB0 := Lib.hid (below_alloc w (.cells #[.int .i64 lo, .int .i64 off, .int .i64 hp] 51))
  have hbx := Holds.new w 51 #[.int .i64 lo, .int .i64 off, .int .i64 hp]
  have x0 := hbx.cell 0
  have x1 := hbx.cell 1
  have x2 := hbx.cell 2
  have HD0 := Lib.hid (h.below HB0.out)
  have hway : (∃ v, (∀ W : World, Calls Tryz.prog 50 #[.agg #[.int .i64 lo, .int .i64 off, .int .i64 hp]] W fun e w' => e = .returned (.bool v) ∧ Below W.heap.size W w') ∧ putV lo off hp ro = 1 ∧ putA a lo off hp ro bo = a ∧ (v = false ∨ v = true ∧ decide (ro < 0) = true ∨ v = true ∧ decide (ro < 0) = false ∧ decide (63 < ro) = true)) ∨
      ((∀ W : World, Calls Tryz.prog 50 #[.agg #[.int .i64 lo, .int .i64 off, .int .i64 hp]] W fun e w' => e = .returned (.bool true) ∧ Below W.heap.size W w') ∧ putV lo off hp ro = 0 ∧ putA a lo off hp ro bo = ⟨a.lim, lo, off, hp, ro, bo, a.lim⟩ ∧ decide (ro < 0) = false ∧ decide (63 < ro) = false) := by
    unfold putV putA
    by_cases hc : CanE (lo, off, hp)
    · have hg := fun W => rgood_yes lo off hp W hc
      obtain ⟨h1, h2, h3, h4, h5, h6⟩ := hc
      dsimp only at h1 h2 h3 h4 h5 h6
      by_cases r0 : ro < 0
      · have e : ¬ putB lo off hp ro = true := fun k => by rw [putB_iff] at k; omega
        exact .inl ⟨true, hg, if_neg e, if_neg e, .inr (.inl ⟨rfl, decide_eq_true r0⟩)⟩
      · by_cases r1 : 63 < ro
        · have e : ¬ putB lo off hp ro = true := fun k => by rw [putB_iff] at k; omega
          exact .inl ⟨true, hg, if_neg e, if_neg e, .inr (.inr ⟨rfl, decide_eq_false r0, decide_eq_true r1⟩)⟩
        · have e : putB lo off hp ro = true := by rw [putB_iff]; omega
          exact .inr ⟨hg, if_pos e, if_pos e, decide_eq_false r0, decide_eq_false r1⟩
    · have hg := fun W => rgood_no lo off hp W hc
      have e : ¬ putB lo off hp ro = true := fun k => by
        rw [putB_iff] at k
        refine hc ⟨?_, ?_, ?_, ?_, ?_, ?_⟩ <;> dsimp only <;> omega
      exact .inl ⟨false, hg, if_neg e, if_neg e, .inl rfl⟩
  obtain ⟨R, hR⟩ : ∃ R, putV lo off hp ro = R := ⟨_, rfl⟩
  obtain ⟨S', hS'⟩ : ∃ S', putA a lo off hp ro bo = S' := ⟨_, rfl⟩
  rw [hR, hS'] at hway ⊢
  clear h hbx hR hS'
  rcases hway with ⟨v, hg, rfl, rfl, hv⟩ | ⟨hg, rfl, rfl, d0, d1⟩
  · rcases hv with rfl | ⟨rfl, d0⟩ | ⟨rfl, d0, d1⟩
    all_goals
      go_enter Tryz.func20, Tryz.ntmps20
      go_wp2_with (go_at_call 50; refine (hg _).mono ?_; rintro e w1 ⟨rfl, hb1⟩; have HD1 := Lib.hid (HD0.out.below hb1); have HC1 := Lib.hid (Chg.of_below (fun k => k = g) (HB0.out.trans (hb1.mono HB0.out.size))); clear hb1)
      go_ret
      exact ⟨rfl, HD1.out, HC1.out⟩
  · obtain ⟨lo0, off0, hp0, ro0, bo0, age0, hD, hage, hrel⟩ := HD0.out
    have HD := Lib.hid hD
    obtain ⟨hh, hhh⟩ : ∃ hh, afreshB a = hh := ⟨_, rfl⟩
    rw [hhh] at HD
    have hl := hI.lim
    have hz : afreshB ⟨a.lim, lo, off, hp, ro, bo, a.lim⟩ = true := decide_eq_true (by show 0 < a.lim; omega)
    have HE := Lib.hid (fun W (hw : Holds W g 53 (dsC a.lim lo off hp ro bo 0 true)) (hc : Chg (fun k => k = g) w W) => (⟨⟨lo, off, hp, ro, bo, 0, by rw [hz]; exact hw, ⟨by omega, by show 0 ≤ a.lim; omega⟩, fun _ => ⟨rfl, rfl, rfl, rfl, rfl, by show 0 + a.lim = a.lim; omega⟩⟩, hc⟩ : DsGoes g ⟨a.lim, lo, off, hp, ro, bo, a.lim⟩ w W))
    have hsp : splice ([.int .i64 a.lim, .int .i64 lo0, .int .i64 off0, .int .i64 hp0, .int .i64 ro0, .int .u16 bo0, .int .i64 age0, .bool hh] : List Value) 1 ([.int .i64 lo, .int .i64 off, .int .i64 hp] : List Value) = [.int .i64 a.lim, .int .i64 lo, .int .i64 off, .int .i64 hp, .int .i64 ro0, .int .u16 bo0, .int .i64 age0, .bool hh] := rfl
    clear hD HD0 hage hrel hhh hz hI hl
    go_enter Tryz.func20, Tryz.ntmps20
    go_wp2_with (first
      | (go_at_call 50; refine (hg _).mono ?_; rintro e w1 ⟨rfl, hb1⟩; have HD1 := Lib.hid (HD.out.below hb1 HD.out.lt); have HX1 := Lib.hid ((Holds.new w 51 #[.int .i64 lo, .int .i64 off, .int .i64 hp]).below hb1 (by simp)); have HC1 := Lib.hid (Chg.of_below (fun k => k = g) (HB0.out.trans (hb1.mono HB0.out.size))); clear hb1 x0 x1 x2; have x0 := HX1.out.cell 0; have x1 := HX1.out.cell 1; have x2 := HX1.out.cell 2)
      | (refine wpList_store_at rfl 51 (.tmp 23) (.tmp 21) rfl g 1 [.int .i64 lo, .int .i64 off, .int .i64 hp] rfl rfl 53 [.int .i64 a.lim, .int .i64 lo0, .int .i64 off0, .int .i64 hp0, .int .i64 ro0, .int .u16 bo0, .int .i64 age0, .bool hh] HD1.out (by kernel_rfl) (by show 4 ≤ 8; omega) (one_ints3 _ _ _) ?_; rw [hsp]; have h2 := (Wp.start (w0 := w1) (show Holds w1 g 53 [.int .i64 a.lim, .int .i64 lo0, .int .i64 off0, .int .i64 hp0, .int .i64 ro0, .int .u16 bo0, .int .i64 age0, .bool hh].toArray from HD1.out)).row [.int .i64 a.lim, .int .i64 lo, .int .i64 off, .int .i64 hp, .int .i64 ro0, .int .u16 bo0, .int .i64 age0, .bool hh]; have k4 := h2.node.cell 4; have k5 := h2.node.cell 5; have k6 := h2.node.cell 6; have k7 := h2.node.cell 7; have f4 := h2.node.soft 4; have f5 := h2.node.soft 5; have f6 := h2.node.soft 6; have f7 := h2.node.soft 7; have h6 := (((h2.put 4 (.int .i64 ro)).put 5 (.int .u16 bo)).put 6 (.int .i64 0)).put 7 (.bool true); have HF := Lib.hid (HE.out _ (h6.to (cs' := dsC a.lim lo off hp ro bo 0 true) rfl).node (HC1.out.trans h6.chg (fun _ _ e => e))); clear h2 h6))
    go_ret
    exact ⟨rfl, HF.out⟩
theorem dbeat_any (w : World) (g : Nat) (a : AS) (h : Ds w g a) (hI : AInv a) : Calls Tryz.prog 19 #[.pointer (some ⟨g, 0, none⟩)] w fun e w' => e = .returned (.tuple #[]) ∧ DsGoes g (beatA a) w w' := by
  obtain ⟨lo, off, hp, ro, bo, age, hD, hage, hrel⟩ := h
  have hl := hI.lim
  have hlf := hI.left
  by_cases hp0 : 0 < a.left
  · have hz : afreshB a = true := decide_eq_true hp0
    have hr := hrel hz
    have eb : beatA a = { a with left := a.left - 1 } := if_pos hp0
    rw [eb]
    rw [hz] at hD
    have c0 : w.cell? ⟨g, 0, none⟩ = some (.int .i64 a.lim) := hD.cell 0
    have c6 : w.cell? ⟨g, 6, none⟩ = some (.int .i64 age) := hD.cell 6
    have c7 : w.cell? ⟨g, 7, none⟩ = some (.bool true) := hD.cell 7
    have f6 := hD.soft 6
    have f7 := hD.soft 7
    have ew := IntWalk.i64_in (age + 1) (by omega)
    have h1 := (Wp.start hD).put 6 (.int .i64 (age + 1))
    by_cases hq : age + 1 < a.lim
    · have d1 : decide (a.lim ≤ age + 1) = false := decide_eq_false (by omega)
      have hz2 : afreshB { a with left := a.left - 1 } = true := decide_eq_true (by show 0 < a.left - 1; omega)
      have HE := Lib.hid (fun m => (⟨⟨lo, off, hp, ro, bo, age + 1, by rw [hz2]; exact (h1.drewN m).node, ⟨by omega, by show age + 1 ≤ a.lim; omega⟩, fun _ => ⟨hr.1, hr.2.1, hr.2.2.1, hr.2.2.2.1, hr.2.2.2.2.1, by show age + 1 + (a.left - 1) = a.lim; omega⟩⟩, (h1.drewN m).chg⟩ : DsGoes g { a with left := a.left - 1 } w _))
      clear hD h1 hI hrel hr hz hz2 eb
      go_enter Tryz.func19, Tryz.ntmps19
      go_wp2
      go_quiet (fail)
      go_wp2
      go_end0
      exact ⟨rfl, HE.out _⟩
    · have d1 : decide (a.lim ≤ age + 1) = true := decide_eq_true (by omega)
      have hz2 : afreshB { a with left := a.left - 1 } = false := decide_eq_false (by show ¬ 0 < a.left - 1; omega)
      have HE := Lib.hid (fun m => (⟨⟨lo, off, hp, ro, bo, age + 1, by rw [hz2]; exact ((h1.drewN m).put 7 (.bool false)).node, ⟨by omega, by show age + 1 ≤ a.lim; omega⟩, fun e => by rw [hz2] at e; cases e⟩, ((h1.drewN m).put 7 (.bool false)).chg⟩ : DsGoes g { a with left := a.left - 1 } w _))
      clear hD h1 hI hrel hr hz hz2 eb
      go_enter Tryz.func19, Tryz.ntmps19
      go_wp2
      go_quiet (fail)
      go_wp2
      go_end0
      exact ⟨rfl, HE.out _⟩
  · have hz : afreshB a = false := decide_eq_false hp0
    have eb : beatA a = a := if_neg hp0
    rw [eb]
    have HE := Lib.hid (⟨⟨lo, off, hp, ro, bo, age, hD, hage, hrel⟩, Chg.refl _ _⟩ : DsGoes g a w w)
    rw [hz] at hD
    have c7 : w.cell? ⟨g, 7, none⟩ = some (.bool false) := hD.cell 7
    clear hD hI hrel hz eb
    go_enter Tryz.func19, Tryz.ntmps19
    go_wp2
    refine bodyPost_ret (results_none rfl _ _ _) rfl ?_
    exact ⟨rfl, HE.out⟩
end Go.Proofs.YtgmeakcfiaopcaaGreat

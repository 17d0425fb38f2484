/- Texts of this seat, one behind the other. -/
import Derived.Test.YtgmeakcfiaopcaaGreatBunT
import Derived.Test.YtgmeakcfiaopcaaGreatBunA
import Derived.LoopTactic
import Derived.LoopN
import Derived.Deep.RegionLaw
import Derived.Deep.CutBlock
import Derived.BigQuiet
/- Package source: what was asked, how it lies; New, Drop, Put, Beat, Fresh. -/
namespace Go.Proofs.YtgmeakcfiaopcaaGreat
open Go.RowKit
set_option linter.unusedVariables false
set_option linter.unusedSimpArgs false

/-- The limit; what was asked: an entry, whose it is; for how many rounds it is good still. -/
structure AS where
  lim : Int
  lo : Int
  off : Int
  hp : Int
  ro : Int
  bo : Int
  left : Int
def newA (lim : Int) : AS := ⟨lim, 0, 0, 0, 0, 0, 0⟩
def dropA (a : AS) : AS := ⟨a.lim, 0, 0, 0, 0, 0, 0⟩
def afreshB (a : AS) : Bool := decide (0 < a.left)
/-- Can an entry be, and whose it is? -/
def putB (lo off hp ro : Int) : Bool := decide (((0 ≤ lo ∧ lo ≤ 1125899906842624) ∧ -1125899906842624 ≤ off ∧ off ≤ 1125899906842624) ∧ (1 ≤ hp ∧ hp ≤ 63) ∧ 0 ≤ ro ∧ ro ≤ 63)
def putA (a : AS) (lo off hp ro bo : Int) : AS := if putB lo off hp ro = true then ⟨a.lim, lo, off, hp, ro, bo, a.lim⟩ else a
def putV (lo off hp ro : Int) : Int := if putB lo off hp ro = true then 0 else 1
def beatA (a : AS) : AS := if 0 < a.left then { a with left := a.left - 1 } else a
structure AInv (a : AS) : Prop where
  lim : 1 ≤ a.lim ∧ a.lim ≤ 1000
  left : 0 ≤ a.left ∧ a.left ≤ a.lim
  off : -1125899906842624 ≤ a.off ∧ a.off ≤ 1125899906842624
theorem AInv.new {lim : Int} (h : 1 ≤ lim ∧ lim ≤ 1000) : AInv (newA lim) := ⟨h, ⟨Int.le_refl 0, by show (0 : Int) ≤ lim; omega⟩, ⟨by show (-1125899906842624 : Int) ≤ 0; omega, by show (0 : Int) ≤ 1125899906842624; omega⟩⟩
theorem AInv.drop {a : AS} (h : AInv a) : AInv (dropA a) := AInv.new h.lim
theorem putB_iff (lo off hp ro : Int) : putB lo off hp ro = true ↔ ((0 ≤ lo ∧ lo ≤ 1125899906842624) ∧ -1125899906842624 ≤ off ∧ off ≤ 1125899906842624) ∧ (1 ≤ hp ∧ hp ≤ 63) ∧ 0 ≤ ro ∧ ro ≤ 63 := decide_eq_true_iff
theorem AInv.put {a : AS} (h : AInv a) (lo off hp ro bo : Int) : AInv (putA a lo off hp ro bo) := by
  unfold putA
  split
  · rename_i hp
    exact ⟨h.lim, ⟨by have := h.lim; show 0 ≤ a.lim; omega, Int.le_refl _⟩, ((putB_iff _ _ _ _).1 hp).1.2⟩
  · exact h
theorem AInv.beat {a : AS} (h : AInv a) : AInv (beatA a) := by
  have h1 := h.left
  unfold beatA
  split
  · exact ⟨h.lim, ⟨by show 0 ≤ a.left - 1; omega, by show a.left - 1 ≤ a.lim; omega⟩, h.off⟩
  · exact h

/-- How it lies. -/
def srcC (a : AS) : Array Value := #[.int .i64 a.lim, .int .i64 a.lo, .int .i64 a.off, .int .i64 a.hp, .int .i64 a.ro, .int .u16 a.bo, .int .i64 a.left]
def Sq (w : World) (g : Nat) (a : AS) : Prop := Holds w g 79 (srcC a)
section
variable {w w' : World} {g : Nat} {a : AS}
theorem Sq.c0 (h : Sq w g a) : w.cell? ⟨g, 0, none⟩ = some (.int .i64 a.lim) := Holds.cell h 0
theorem Sq.c1 (h : Sq w g a) : w.cell? ⟨g, 1, none⟩ = some (.int .i64 a.lo) := Holds.cell h 1
theorem Sq.c2 (h : Sq w g a) : w.cell? ⟨g, 2, none⟩ = some (.int .i64 a.off) := Holds.cell h 2
theorem Sq.c3 (h : Sq w g a) : w.cell? ⟨g, 3, none⟩ = some (.int .i64 a.hp) := Holds.cell h 3
theorem Sq.c4 (h : Sq w g a) : w.cell? ⟨g, 4, none⟩ = some (.int .i64 a.ro) := Holds.cell h 4
theorem Sq.c5 (h : Sq w g a) : w.cell? ⟨g, 5, none⟩ = some (.int .u16 a.bo) := Holds.cell h 5
theorem Sq.c6 (h : Sq w g a) : w.cell? ⟨g, 6, none⟩ = some (.int .i64 a.left) := Holds.cell h 6
theorem Sq.below {B : Nat} (h : Sq w g a) (hb : Below B w w') (hg : g < B) : Sq w' g a := Holds.below h hb hg
theorem Sq.chg {S : Nat → Prop} (h : Sq w g a) (hc : Chg S w w') (hS : ¬ S g) : Sq w' g a := Holds.chg h hc hS
end
/-- What a call that writes leaves: nothing else that was there is changed. -/
def SGoes (g : Nat) (a : AS) (w w' : World) : Prop := Sq w' g a ∧ Chg (fun k => k = g) w w'
theorem SGoes.refl {w : World} {g : Nat} {a : AS} (h : Sq w g a) : SGoes g a w w := ⟨h, Chg.refl _ _⟩
theorem SGoes.of_below {w w' : World} {g : Nat} {a : AS} (h : Sq w g a) (hb : Below w.heap.size w w') : SGoes g a w w' := ⟨h.below hb (Holds.lt h), Chg.of_below _ hb⟩
theorem Wp.src {w0 w : World} {g : Nat} {a : AS} (h : Wp w0 g 79 (srcC a) w) : SGoes g a w0 w := ⟨h.node, h.chg⟩
theorem one_src (a : AS) : ∀ v ∈ (srcC a).toList, v.oneCell' = true := by
  intro v hv
  unfold srcC at hv
  simp only [List.mem_cons, List.not_mem_nil, or_false] at hv
  rcases hv with rfl | rfl | rfl | rfl | rfl | rfl | rfl <;> rfl
theorem one_asked (a b c d e f : Int) : ∀ v ∈ ([.int .i64 a, .int .i64 b, .int .i64 c, .int .i64 d, .int .u16 e, .int .i64 f] : List Value), v.oneCell' = true := by
  intro v hv
  simp only [List.mem_cons, List.not_mem_nil, or_false] at hv
  rcases hv with rfl | rfl | rfl | rfl | rfl | rfl <;> rfl
theorem snew_no (w : World) (lim : Int) (h : lim < 1 ∨ 1000 < lim) : Calls Tryz.prog 6 #[.int .i64 lim] w fun e w' => e = .returned (.tuple #[.pointer none, .int .i64 1]) ∧ w = w' := by
  rcases h with h | h
  · have d0 : decide (lim < 1) = true := decide_eq_true h
    go_enter Tryz.func6, Tryz.ntmps6
    go_wp2
    go_ret2
    exact ⟨rfl, rfl⟩
  · have d0 : decide (lim < 1) = false := decide_eq_false (by omega)
    have d1 : decide (1000 < lim) = true := decide_eq_true (by omega)
    go_enter Tryz.func6, Tryz.ntmps6
    go_wp2
    go_ret2
    exact ⟨rfl, rfl⟩
theorem snew_yes (w : World) (lim : Int) (h : 1 ≤ lim ∧ lim ≤ 1000) : Calls Tryz.prog 6 #[.int .i64 lim] w fun e w' => e = .returned (.tuple #[.pointer (some ⟨w.heap.size, 0, none⟩), .int .i64 0]) ∧ Sq w' w.heap.size (newA lim) ∧ Below w.heap.size w w' := by
  have d0 : decide (lim < 1) = false := decide_eq_false (by omega)
  have d1 : decide (1000 < lim) = false := decide_eq_false (by omega)
  go_enter Tryz.func6, Tryz.ntmps6
  go_wp2
  go_ret2
  exact ⟨rfl, Holds.new _ _ _, below_alloc _ _⟩
theorem sfresh_nil (w : World) : Calls Tryz.prog 12 #[.pointer none] w fun e w' => e = .returned (.bool false) ∧ w = w' := by
  go_enter Tryz.func12, Tryz.ntmps12
  go_wp2
  go_ret
  exact ⟨rfl, rfl⟩
theorem sfresh_any (w : World) (g : Nat) (a : AS) (h : Sq w g a) : Calls Tryz.prog 12 #[.pointer (some ⟨g, 0, none⟩)] w fun e w' => e = .returned (.bool (afreshB a)) ∧ w = w' := by
  have c6 := h.c6
  clear h
  unfold afreshB
  go_enter Tryz.func12, Tryz.ntmps12
  go_wp2
  go_ret
  exact ⟨rfl, rfl⟩
theorem sdrop_nil (w : World) : Calls Tryz.prog 9 #[.pointer none] w fun e w' => e = .returned (.tuple #[]) ∧ w = w' := by
  go_enter Tryz.func9, Tryz.ntmps9
  go_wp2
  refine bodyPost_ret (results_none rfl _ _ _) rfl ?_
  exact ⟨rfl, rfl⟩
theorem sdrop_any (w : World) (g : Nat) (a : AS) (h : Sq w g a) : Calls Tryz.prog 9 #[.pointer (some ⟨g, 0, none⟩)] w fun e w' => e = .returned (.tuple #[]) ∧ SGoes g (dropA a) w w' := by
  have HL := Lib.hid (show Holds w g 79 (srcC a).toList.toArray from h)
  have hst := (Wp.start h).row (srcC (dropA a)).toList
  have HE := Lib.hid (show SGoes g (dropA a) w _ from Wp.src (a := dropA a) hst)
  have hsp : splice (srcC a).toList 1 ([.int .i64 0, .int .i64 0, .int .i64 0, .int .i64 0, .int .u16 0, .int .i64 0] : List Value) = (srcC (dropA a)).toList := rfl
  clear h hst
  go_enter Tryz.func9, Tryz.ntmps9
  go_wp2_with (refine wpList_store_at rfl 77 (.tmp 7) (.tmp 5) rfl g 1 [.int .i64 0, .int .i64 0, .int .i64 0, .int .i64 0, .int .u16 0, .int .i64 0] rfl rfl 79 (srcC a).toList HL.out (by kernel_rfl) (by show 7 ≤ 7; omega) (one_asked _ _ _ _ _ _) ?_; rw [hsp])
  go_end0
  exact ⟨rfl, HE.out⟩
theorem sbeat_nil (w : World) : Calls Tryz.prog 10 #[.pointer none] w fun e w' => e = .returned (.tuple #[]) ∧ w = w' := by
  go_enter Tryz.func10, Tryz.ntmps10
  go_wp2_with (go_at_call 12; refine (sfresh_nil _).mono ?_; rintro e wx ⟨rfl, hwx⟩; subst wx)
  go_end0
  exact ⟨rfl, rfl⟩
theorem sbeat_any (w : World) (g : Nat) (a : AS) (h : Sq w g a) (hI : AInv a) : Calls Tryz.prog 10 #[.pointer (some ⟨g, 0, none⟩)] w fun e w' => e = .returned (.tuple #[]) ∧ SGoes g (beatA a) w w' := by
  have hl := hI.left
  have hm := hI.lim
  have hf := sfresh_any w g a h
  unfold afreshB at hf
  by_cases hp : 0 < a.left
  · have c6 := h.c6
    have f6 := Holds.soft h 6
    have ew := IntWalk.i64_in (a.left - 1) (by omega)
    have e : beatA a = { a with left := a.left - 1 } := if_pos hp
    have HE := Lib.hid (show SGoes g (beatA a) w _ from e ▸ Wp.src (a := { a with left := a.left - 1 }) (((Wp.start h).put 6 (.int .i64 (a.left - 1))).to rfl))
    rw [decide_eq_true hp] at hf
    clear h hI e
    go_enter Tryz.func10, Tryz.ntmps10
    go_wp2_with (go_at_call 12; refine hf.mono ?_; rintro e wx ⟨rfl, hwx⟩; subst wx)
    go_end0
    exact ⟨rfl, HE.out⟩
  · have HE := Lib.hid (show SGoes g (beatA a) w w from by rw [show beatA a = a from if_neg hp]; exact SGoes.refl h)
    rw [decide_eq_false hp] at hf
    clear h hI
    go_enter Tryz.func10, Tryz.ntmps10
    go_wp2_with (go_at_call 12; refine hf.mono ?_; rintro e wx ⟨rfl, hwx⟩; subst wx)
    go_end0
    exact ⟨rfl, HE.out⟩
end Go.Proofs.YtgmeakcfiaopcaaGreat

/- Package source: Put. -/
namespace Go.Proofs.YtgmeakcfiaopcaaGreat
open Go.RowKit
set_option linter.unusedVariables false
set_option linter.unusedSimpArgs false

/-- While an entry is put: the source, the entry's box, the other's. -/
structure Pk (w0 : World) (g : Nat) (a : AS) (e u : Array Value) (w : World) : Prop where
  src : Sq w g a
  ent : Holds w w0.heap.size 49 e
  who : Holds w (w0.heap.size + 1) 41 u
  chg : Chg (fun k => k = g) w0 w
  old : g < w0.heap.size
section
variable {w0 w w' : World} {g : Nat} {a a' : AS} {e u : Array Value}
theorem Pk.start (h : Sq w0 g a) (e u : Array Value) : Pk w0 g a e u ((w0.alloc (.cells e 49)).alloc (.cells u 41)) := by
  have h2 := Holds.new (w0.alloc (.cells e 49)) 41 u
  rw [size_alloc] at h2
  exact ⟨(Holds.alloc h _).alloc _, (Holds.new w0 _ _).alloc _, h2, Chg.of_below _ (((Below.refl _ _).alloc (Nat.le_refl _) _).alloc (by simp) _), Holds.lt h⟩
theorem Pk.below (h : Pk w0 g a e u w) (hb : Below w.heap.size w w') : Pk w0 g a e u w' :=
  ⟨h.src.below hb (Holds.lt h.src), h.ent.below hb h.ent.lt, h.who.below hb h.who.lt, h.chg.trans (Chg.of_below (fun _ => False) hb) (fun _ _ e => e.elim), h.old⟩
theorem Pk.drewN (h : Pk w0 g a e u w) (n : Nat) : Pk w0 g a e u (w.drewN n) := h.below (below_drewN (Below.refl _ _) n)
theorem Pk.put (h : Pk w0 g a e u w) : Pk w0 g a' e u (w.setRow g (srcC a').toList.toArray) := by
  have k := (Wp.start (w0 := w) (show Holds w g 79 (srcC a) from h.src)).row (srcC a').toList
  have ho := h.old
  exact ⟨k.node, h.ent.chg k.chg (fun e => by omega), h.who.chg k.chg (fun e => by omega), h.chg.trans k.chg (fun _ _ e => e), h.old⟩
theorem Pk.goes (h : Pk w0 g a e u w) : SGoes g a w0 w := ⟨h.src, h.chg⟩
end
theorem sput_nil (w : World) (lo off hp ro bo : Int) : Calls Tryz.prog 13 #[.pointer none, .agg #[.int .i64 lo, .int .i64 off, .int .i64 hp], .agg #[.int .i64 ro, .int .u16 bo]] w fun e w' => e = .returned (.int .i64 2) ∧ Below w.heap.size w w' := by
  have HB := Lib.hid (((Below.refl w.heap.size w).alloc (Nat.le_refl _) (.cells #[.int .i64 lo, .int .i64 off, .int .i64 hp] 49)).alloc (by simp) (.cells #[.int .i64 ro, .int .u16 bo] 41))
  go_enter Tryz.func13, Tryz.ntmps13
  go_wp2
  go_ret
  exact ⟨rfl, HB.out⟩
set_option maxHeartbeats 2000000 in
set_option maxRecDepth 100000 in
theorem sput_any (w : World) (g : Nat) (a : AS) (h : Sq w g a) (lo off hp ro bo : Int) : Calls Tryz.prog 13 #[.pointer (some ⟨g, 0, none⟩), .agg #[.int .i64 lo, .int .i64 off, .int .i64 hp], .agg #[.int .i64 ro, .int .u16 bo]] w fun e w' => e = .returned (.int .i64 (putV lo off hp ro)) ∧ SGoes g (putA a lo off hp ro bo) w w' := by
  have hst := Pk.start h #[.int .i64 lo, .int .i64 off, .int .i64 hp] #[.int .i64 ro, .int .u16 bo]
  obtain ⟨V, hV⟩ : ∃ V, V = (w.alloc (.cells #[.int .i64 lo, .int .i64 off, .int .i64 hp] 49)).alloc (.cells #[.int .i64 ro, .int .u16 bo] 41) := ⟨_, rfl⟩
  rw [← hV] at hst
  have HK := Lib.hid hst
  have x0 : V.cell? ⟨w.heap.size, 0, none⟩ = some (.int .i64 lo) := hst.ent.cell 0
  have x1 : V.cell? ⟨w.heap.size, 1, none⟩ = some (.int .i64 off) := hst.ent.cell 1
  have x2 : V.cell? ⟨w.heap.size, 2, none⟩ = some (.int .i64 hp) := hst.ent.cell 2
  have hway : (∃ v, (∀ W : World, Calls Tryz.prog 29 #[.agg #[.int .i64 lo, .int .i64 off, .int .i64 hp]] W fun e w' => e = .returned (.bool v) ∧ Below W.heap.size W w') ∧ putV lo off hp ro = 1 ∧ putA a lo off hp ro bo = a ∧ (v = false ∨ v = true ∧ decide (ro < 0) = true ∨ v = true ∧ decide (ro < 0) = false ∧ decide (64 ≤ ro) = true)) ∨
      ((∀ W : World, Calls Tryz.prog 29 #[.agg #[.int .i64 lo, .int .i64 off, .int .i64 hp]] W fun e w' => e = .returned (.bool true) ∧ Below W.heap.size W w') ∧ putV lo off hp ro = 0 ∧ putA a lo off hp ro bo = ⟨a.lim, lo, off, hp, ro, bo, a.lim⟩ ∧ decide (ro < 0) = false ∧ decide (64 ≤ ro) = false) := by
    unfold putV putA
    by_cases hc : CanE (lo, off, hp)
    · have hg := fun W => good_yes lo off hp W hc
      obtain ⟨h1, h2, h3, h4, h5, h6⟩ := hc
      dsimp only at h1 h2 h3 h4 h5 h6
      by_cases r0 : ro < 0
      · have e : ¬ putB lo off hp ro = true := fun k => by rw [putB_iff] at k; omega
        exact .inl ⟨true, hg, if_neg e, if_neg e, .inr (.inl ⟨rfl, decide_eq_true r0⟩)⟩
      · by_cases r1 : 64 ≤ ro
        · have e : ¬ putB lo off hp ro = true := fun k => by rw [putB_iff] at k; omega
          exact .inl ⟨true, hg, if_neg e, if_neg e, .inr (.inr ⟨rfl, decide_eq_false r0, decide_eq_true r1⟩)⟩
        · have e : putB lo off hp ro = true := by rw [putB_iff]; omega
          exact .inr ⟨hg, if_pos e, if_pos e, decide_eq_false r0, decide_eq_false r1⟩
    · have hg := fun W => good_no lo off hp W hc
      have e : ¬ putB lo off hp ro = true := fun k => by
        rw [putB_iff] at k
        refine hc ⟨?_, ?_, ?_, ?_, ?_, ?_⟩ <;> dsimp only <;> omega
      exact .inl ⟨false, hg, if_neg e, if_neg e, .inl rfl⟩
  obtain ⟨R, hR⟩ : ∃ R, putV lo off hp ro = R := ⟨_, rfl⟩
  obtain ⟨S', hS'⟩ : ∃ S', putA a lo off hp ro bo = S' := ⟨_, rfl⟩
  rw [hR, hS'] at hway ⊢
  clear h hst hR hS'
  rcases hway with ⟨v, hg, rfl, rfl, hv⟩ | ⟨hg, rfl, rfl, d0, d1⟩
  · rcases hv with rfl | ⟨rfl, d0⟩ | ⟨rfl, d0, d1⟩
    all_goals
      go_enter Tryz.func13, Tryz.ntmps13
      go_upto_region 1 with fail
      rw [← hV]
      clear hV
      go_wp2_with (go_at_call 29; refine (hg _).mono ?_; rintro e w1 ⟨rfl, hb1⟩; replace HK := Lib.hid (HK.out.below hb1); clear hb1; have y0 := HK.out.who.cell 0)
      go_ret
      exact ⟨rfl, HK.out.goes⟩
  · have c0 := HK.out.src.c0
    have HS := Lib.hid (fun W (hk : Pk w g a #[.int .i64 lo, .int .i64 off, .int .i64 hp] #[.int .i64 ro, .int .u16 bo] W) => show Holds W g 79 (srcC a).toList.toArray from hk.src)
    have hsp : splice (srcC a).toList 1 ([.int .i64 lo, .int .i64 off, .int .i64 hp, .int .i64 ro, .int .u16 bo, .int .i64 a.lim] : List Value) = (srcC ⟨a.lim, lo, off, hp, ro, bo, a.lim⟩).toList := rfl
    go_enter Tryz.func13, Tryz.ntmps13
    go_upto_region 1 with fail
    rw [← hV]
    clear hV c0
    go_upto_region 5 with (go_at_call 29; refine (hg _).mono ?_; rintro e w1 ⟨rfl, hb1⟩; replace HK := Lib.hid (HK.out.below hb1); clear hb1; have y0 := HK.out.who.cell 0)
    replace HK : Hid (Pk w g a _ _ w1.drew) := Lib.hid (HK.out.drewN 1)
    refine region_turns (fun (w' : World) => w'.cell? ⟨w.heap.size, 0, none⟩ = some (.int .i64 lo) ∧ w'.cell? ⟨w.heap.size, 1, none⟩ = some (.int .i64 off) ∧ w'.cell? ⟨w.heap.size, 2, none⟩ = some (.int .i64 hp) ∧ w'.cell? ⟨w.heap.size + 1, 0, none⟩ = some (.int .i64 ro) ∧ w'.cell? ⟨w.heap.size + 1, 1, none⟩ = some (.int .u16 bo) ∧ w'.cell? ⟨g, 0, none⟩ = some (.int .i64 a.lim)) (fun j => decide (11 ≤ j)) (by kernel_rfl) (⟨HK.out.ent.cell 0, HK.out.ent.cell 1, HK.out.ent.cell 2, HK.out.who.cell 0, HK.out.who.cell 1, HK.out.src.c0⟩) (fun hS => ?_)
    refine Turns.take hS 0 _ rfl (by kernel_rfl) (by kernel_rfl) (by kernel_rfl) (by kernel_rfl) (fun _ _ _ h => h) (by rfl) (fun w' hS' => by (try dsimp only at hS'); go_split_ands; go_simp; (try with_reducible rfl)) ?_
    simp only [Act.put, List.getElem_toArray, List.getElem_cons_succ, List.getElem_cons_zero, List.setIfInBounds_toArray, List.set_cons_zero, List.set_cons_succ]
    refine Turns.take hS 1 _ rfl (by kernel_rfl) (by kernel_rfl) (by kernel_rfl) (by kernel_rfl) (fun _ _ _ h => h) (by rfl) (fun w' hS' => by (try dsimp only at hS'); go_split_ands; go_simp; (try with_reducible rfl)) ?_
    simp only [Act.put, List.getElem_toArray, List.getElem_cons_succ, List.getElem_cons_zero, List.setIfInBounds_toArray, List.set_cons_zero, List.set_cons_succ]
    refine Turns.take hS 2 _ rfl (by kernel_rfl) (by kernel_rfl) (by kernel_rfl) (by kernel_rfl) (fun _ _ _ h => h) (by rfl) (fun w' hS' => by (try dsimp only at hS'); go_split_ands; go_simp; (try with_reducible rfl)) ?_
    simp only [Act.put, List.getElem_toArray, List.getElem_cons_succ, List.getElem_cons_zero, List.setIfInBounds_toArray, List.set_cons_zero, List.set_cons_succ]
    refine Turns.take hS 3 _ rfl (by kernel_rfl) (by kernel_rfl) (by kernel_rfl) (by kernel_rfl) (fun _ _ _ h => h) (by rfl) (fun w' hS' => by (try dsimp only at hS'); go_split_ands; go_simp; (try with_reducible rfl)) ?_
    simp only [Act.put, List.getElem_toArray, List.getElem_cons_succ, List.getElem_cons_zero, List.setIfInBounds_toArray, List.set_cons_zero, List.set_cons_succ]
    refine Turns.take hS 4 _ rfl (by kernel_rfl) (by kernel_rfl) (by kernel_rfl) (by kernel_rfl) (fun _ _ _ h => h) (by rfl) (fun w' hS' => by (try dsimp only at hS'); go_split_ands; go_simp; (try with_reducible rfl)) ?_
    simp only [Act.put, List.getElem_toArray, List.getElem_cons_succ, List.getElem_cons_zero, List.setIfInBounds_toArray, List.set_cons_zero, List.set_cons_succ]
    refine Turns.take hS 5 _ rfl (by kernel_rfl) (by kernel_rfl) (by kernel_rfl) (by kernel_rfl) (fun _ _ _ h => h) (by rfl) (fun w' hS' => by (try dsimp only at hS'); go_split_ands; go_simp; (try with_reducible rfl)) ?_
    simp only [Act.put, List.getElem_toArray, List.getElem_cons_succ, List.getElem_cons_zero, List.setIfInBounds_toArray, List.set_cons_zero, List.set_cons_succ]
    refine Turns.take hS 6 _ rfl (by kernel_rfl) (by kernel_rfl) (by kernel_rfl) (by kernel_rfl) (fun _ _ _ h => h) (by rfl) (fun w' hS' => by (try dsimp only at hS'); go_split_ands; go_simp; (try with_reducible rfl)) ?_
    simp only [Act.put, List.getElem_toArray, List.getElem_cons_succ, List.getElem_cons_zero, List.setIfInBounds_toArray, List.set_cons_zero, List.set_cons_succ]
    refine Turns.take hS 7 _ rfl (by kernel_rfl) (by kernel_rfl) (by kernel_rfl) (by kernel_rfl) (fun _ _ _ h => h) (by rfl) (fun w' hS' => by (try dsimp only at hS'); go_split_ands; go_simp; (try with_reducible rfl)) ?_
    simp only [Act.put, List.getElem_toArray, List.getElem_cons_succ, List.getElem_cons_zero, List.setIfInBounds_toArray, List.set_cons_zero, List.set_cons_succ]
    refine Turns.take hS 8 _ rfl (by kernel_rfl) (by kernel_rfl) (by kernel_rfl) (by kernel_rfl) (fun _ _ _ h => h) (by rfl) (fun w' hS' => by (try dsimp only at hS'); go_split_ands; go_simp; (try with_reducible rfl)) ?_
    simp only [Act.put, List.getElem_toArray, List.getElem_cons_succ, List.getElem_cons_zero, List.setIfInBounds_toArray, List.set_cons_zero, List.set_cons_succ]
    refine Turns.take hS 9 _ rfl (by kernel_rfl) (by kernel_rfl) (by kernel_rfl) (by kernel_rfl) (fun _ _ _ h => h) (by rfl) (fun w' hS' => by (try dsimp only at hS'); go_split_ands; go_simp; (try with_reducible rfl)) ?_
    simp only [Act.put, List.getElem_toArray, List.getElem_cons_succ, List.getElem_cons_zero, List.setIfInBounds_toArray, List.set_cons_zero, List.set_cons_succ]
    refine Turns.next 10 rfl (by kernel_rfl) (by rfl) (fun K hK => ?_)
    simp only [List.getElem_toArray, List.getElem_cons_succ, List.getElem_cons_zero]
    refine wp_store_at 77 (.tmp 31) (.tmp 29) rfl g 1 [.int .i64 lo, .int .i64 off, .int .i64 hp, .int .i64 ro, .int .u16 bo, .int .i64 a.lim] ?hs ?hx 79 (srcC a).toList (HS.out _ HK.out) (by kernel_rfl) (by show 7 ≤ 7; omega) (one_asked _ _ _ _ _ _) ?_
    case hs => first | rfl | simp [Act.eval, Act.put]
    case hx => first | rfl | simp [Act.eval, Act.put]
    rw [hsp]
    replace HK := Lib.hid (HK.out.put (a' := ⟨a.lim, lo, off, hp, ro, bo, a.lim⟩))
    obtain ⟨W3, hW3⟩ : ∃ W3, W3 = w1.drew.setRow g (srcC ⟨a.lim, lo, off, hp, ro, bo, a.lim⟩).toList.toArray := ⟨_, rfl⟩
    rw [← hW3] at HK ⊢
    clear hW3
    refine hK.out _ _ (show (fun (w' : World) => w'.cell? ⟨w.heap.size, 0, none⟩ = some (.int .i64 lo) ∧ w'.cell? ⟨w.heap.size, 1, none⟩ = some (.int .i64 off) ∧ w'.cell? ⟨w.heap.size, 2, none⟩ = some (.int .i64 hp) ∧ w'.cell? ⟨w.heap.size + 1, 0, none⟩ = some (.int .i64 ro) ∧ w'.cell? ⟨w.heap.size + 1, 1, none⟩ = some (.int .u16 bo) ∧ w'.cell? ⟨g, 0, none⟩ = some (.int .i64 a.lim)) _ from ⟨HK.out.ent.cell 0, HK.out.ent.cell 1, HK.out.ent.cell 2, HK.out.who.cell 0, HK.out.who.cell 1, HK.out.src.c0⟩) ?_
    clear hK K hS
    have hS := (show (fun (w' : World) => w'.cell? ⟨w.heap.size, 0, none⟩ = some (.int .i64 lo) ∧ w'.cell? ⟨w.heap.size, 1, none⟩ = some (.int .i64 off) ∧ w'.cell? ⟨w.heap.size, 2, none⟩ = some (.int .i64 hp) ∧ w'.cell? ⟨w.heap.size + 1, 0, none⟩ = some (.int .i64 ro) ∧ w'.cell? ⟨w.heap.size + 1, 1, none⟩ = some (.int .u16 bo) ∧ w'.cell? ⟨g, 0, none⟩ = some (.int .i64 a.lim)) _ from ⟨HK.out.ent.cell 0, HK.out.ent.cell 1, HK.out.ent.cell 2, HK.out.who.cell 0, HK.out.who.cell 1, HK.out.src.c0⟩)
    refine Turns.rest (late_done (by kernel_rfl)) ?_
    refine any_tail 11 (by rfl) (by kernel_rfl) ?_
    simp only [List.drop_succ_cons, List.drop_zero]
    clear hS
    go_wp2
    go_ret
    exact ⟨rfl, HK.out.goes⟩
end Go.Proofs.YtgmeakcfiaopcaaGreat


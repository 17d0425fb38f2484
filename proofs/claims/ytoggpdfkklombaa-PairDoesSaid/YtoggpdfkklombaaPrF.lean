/- The document's Good of a Pulse; its node of layer 18. -/
import Derived.Test.YtoggpdfkklombaaPrE
import Derived.Great.BuildSlice
import Derived.LoopTactic
namespace Go.Proofs.Ytoggpdfkklombaa
open Go.RowKit
set_option linter.unusedVariables false
set_option linter.unusedSimpArgs false

/-- A Plain of kind k, of whom, to whom, sent when. -/
def pl14 (k f t s : Int) : List Value := [.int .i64 k, .int .i64 f, .int .i64 t, .int .i64 0, .int .u16 0, .int .u16 0, .int .i64 0, .int .i64 0, .int .i64 0, .int .i64 s, .int .i64 0, .int .i64 0, .int .i64 0, .int .i64 0]
theorem pl14_one (k f t s : Int) : ∀ v ∈ pl14 k f t s, v.oneCell' = true := by
  intro v hv
  have h : (pl14 k f t s).all (fun v => v.oneCell') = true := rfl
  exact List.all_eq_true.1 h v hv
theorem plain_size3 : (Try.prog.info? 50).map (·.size) = some 14 := by kernel_rfl
/-- The fields of a Pulse: how many bytes, what, how much at most. -/
def fieldsP (f t s : Int) : List Ent := [(1, f, 63), (1, t, 63), (8, s, 1125899906842624)]
def okE (x : Ent) : Bool := decide (0 ≤ x.2.1) && decide (x.2.1 ≤ x.2.2)
theorem fieldsP_ok (f t s : Int) : (fieldsP f t s).all okE = pulseB f t s := by
  unfold fieldsP pulseB
  simp only [List.all_cons, List.all_nil, okE, Bool.and_true, Bool.decide_and, Bool.and_assoc]
set_option maxRecDepth 100000 in
set_option maxHeartbeats 2000000 in
theorem rfieldsP (f t s : Int) (w : World) : Calls Try.prog 39 #[.agg #[.int .i64 4, .int .i64 f, .int .i64 t, .int .i64 0, .int .u16 0, .int .u16 0, .int .i64 0, .int .i64 0, .int .i64 0, .int .i64 s, .int .i64 0, .int .i64 0, .int .i64 0, .int .i64 0]] w fun e w' =>
    ∃ g, e = .returned (.slice (some ⟨g, 0, none⟩) 3 3) ∧ Holds w' g 83 (trs (fieldsP f t s)).toArray ∧ Below w.heap.size w w' := by
  go_enter Try.func39, Try.ntmps39
  go_wp2
  go_ret
  refine ⟨w.heap.size + 2, rfl, ?_, (((Below.refl _ _).alloc (Nat.le_refl _) _).alloc (by simp) _).alloc (by simp; omega) _⟩
  have := Holds.new ((w.alloc (.cells #[.int .i64 4, .int .i64 f, .int .i64 t, .int .i64 0, .int .u16 0, .int .u16 0, .int .i64 0, .int .i64 0, .int .i64 0, .int .i64 s, .int .i64 0, .int .i64 0, .int .i64 0, .int .i64 0] 50)).alloc (.cells #[.int .i64 1, .int .i64 f, .int .i64 63] 83)) 83 (trs (fieldsP f t s)).toArray
  rw [size_alloc, size_alloc] at this
  exact this
/-- While a row of fields is gone over. -/
structure GoingP (w : World) (g : Nat) (l : List Ent) (wr : World) : Prop where
  below : Below w.heap.size w wr
  row : Holds wr g 83 (trs l).toArray
section
variable {w wr : World} {g : Nat} {l : List Ent}
theorem GoingP.cells (h : GoingP w g l wr) {k : Nat} {e : Ent} (hk : l[k]? = some e) : wr.cell? ⟨g, k * 3, none⟩ = some (.int .i64 e.1) ∧ wr.cell? ⟨g, k * 3 + 1, none⟩ = some (.int .i64 e.2.1) ∧ wr.cell? ⟨g, k * 3 + 2, none⟩ = some (.int .i64 e.2.2) := by
  obtain ⟨h1, h2, h3⟩ := trs_get l k e hk
  rw [h.row.cell, h.row.cell, h.row.cell]
  simp only [List.getElem?_toArray]
  exact ⟨h1, h2, h3⟩
theorem GoingP.alloc (h : GoingP w g l wr) (o : Obj) : GoingP w g l (wr.alloc o) := ⟨h.below.alloc h.below.size o, h.row.alloc o⟩
end
theorem no_allE {l : List Ent} {k : Nat} {X : Ent} (hX : l[k]? = some X) (hn : okE X = false) : l.all okE = false := by
  rcases hall : l.all okE with _ | _
  · rfl
  · have := List.all_eq_true.1 hall X (List.mem_of_getElem? hX)
    rw [hn] at this
    cases this
set_option maxHeartbeats 2000000 in
set_option maxRecDepth 100000 in
theorem rgoodP (f t s : Int) (w : World) (ff : Fits f) (ft : Fits t) (fs : Fits s) : Calls Try.prog 33 #[.agg #[.int .i64 4, .int .i64 f, .int .i64 t, .int .i64 0, .int .u16 0, .int .u16 0, .int .i64 0, .int .i64 0, .int .i64 0, .int .i64 s, .int .i64 0, .int .i64 0, .int .i64 0, .int .i64 0]] w fun e w' => e = .returned (.bool (pulseB f t s)) ∧ Below w.heap.size w w' := by
  have hfl := fun W => rfieldsP f t s W
  rw [← fieldsP_ok f t s]
  obtain ⟨l, hl⟩ : ∃ l, fieldsP f t s = l := ⟨_, rfl⟩
  have hlen : l.length = 3 := by rw [← hl]; rfl
  have hfits : ∀ x ∈ l, Fits x.2.1 := by
    rw [← hl]
    intro x hx
    unfold fieldsP at hx
    simp only [List.mem_cons, List.not_mem_nil, or_false] at hx
    rcases hx with rfl | rfl | rfl
    · exact ff
    · exact ft
    · exact fs
  rw [hl]
  simp only [hl] at hfl
  have hfl' : ∀ W : World, Below w.heap.size w W → Calls Try.prog 39 #[.agg #[.int .i64 4, .int .i64 f, .int .i64 t, .int .i64 0, .int .u16 0, .int .u16 0, .int .i64 0, .int .i64 0, .int .i64 0, .int .i64 s, .int .i64 0, .int .i64 0, .int .i64 0, .int .i64 0]] W fun e w' =>
      ∃ g, e = .returned (.slice (some ⟨g, 0, none⟩) 3 3) ∧ GoingP w g l w' := fun W hW => (hfl W).mono fun e w' ⟨g, he, hh, hb⟩ => ⟨g, he, hW.trans (hb.mono hW.size), hh⟩
  have HL := Lib.hid hlen
  have HF := Lib.hid hfits
  clear hfl hl hlen hfits ff ft fs
  go_enter Try.func33, Try.ntmps33
  go_wp2_with (go_at_call 39; refine (hfl' _ ((Below.refl _ _).alloc (Nat.le_refl _) _)).mono ?_; rintro e w1 ⟨g, rfl, hgo1⟩)
  go_loopw [10] (fun i wr => ∃ k : Nat, k ≤ 3 ∧ i = .int .i64 k ∧ (l.take k).all okE = true ∧ GoingP w g l wr) (fun i _ => 3 - (intOf i).toNat)
  case atStart => exact ⟨0, Nat.zero_le _, rfl, rfl, hgo1⟩
  case round =>
    obtain ⟨k, hk, rfl, hall, hgo⟩ := hrel
    have HA := Lib.hid hall
    have HG := Lib.hid hgo
    clear hall hgo hgo1 hfl'
    by_cases hlt : k < 3
    · have hkl : k < l.length := by rw [HL.out]; exact hlt
      obtain ⟨X, hX⟩ : ∃ X, l[k]? = some X := ⟨l[k], List.getElem?_eq_getElem hkl⟩
      obtain ⟨c0, c1, c2⟩ := HG.out.cells hX
      have hbd := HF.out X (List.mem_of_getElem? hX)
      have HX := Lib.hid hX
      have hts : l.take (k + 1) = l.take k ++ [X] := by
        rw [List.take_add_one, hX]
        rfl
      have HT := Lib.hid hts
      clear hts hX hkl
      obtain ⟨Z, N, M⟩ := X
      dsimp only at c0 c1 c2 hbd
      obtain ⟨n1, n2⟩ := hbd
      have HO : Hid (okE (Z, N, M) = (decide (0 ≤ N) && decide (N ≤ M))) := Lib.hid rfl
      have hcase : N < 0 ∨ (0 ≤ N ∧ M < N) ∨ (0 ≤ N ∧ N ≤ M) := by omega
      rcases hcase with h0 | ⟨h0, h1⟩ | ⟨h0, h1⟩
      · go_wp2
        go_ret
        refine ⟨ret_bool ?_, (HG.out.alloc _).below⟩
        exact (no_allE HX.out (by rw [HO.out]; simp; omega)).symm
      · go_wp2
        go_ret
        refine ⟨ret_bool ?_, (HG.out.alloc _).below⟩
        exact (no_allE HX.out (by rw [HO.out]; simp; omega)).symm
      · go_wp2
        go_roundw
        case rel => exact ⟨k + 1, by omega, by go_num, by rw [HT.out, List.all_append, HA.out, List.all_cons, HO.out]; simp; omega, HG.out.alloc _⟩
        case measure => simp [intOf]; omega
    · obtain rfl : k = 3 := by omega
      go_wp2
      go_ret
      refine ⟨ret_bool ?_, HG.out.below⟩
      have := HA.out
      rw [List.take_of_length_le (by rw [HL.out]; exact Nat.le_refl _)] at this
      exact this.symm
/-- How the document's node lies: whom it asked and when, and for how many rounds it waits, is told as long as it waits. -/
def dnC (p : PS) (t s n : Int) : Array Value := #[.int .i64 p.me, .int .i64 t, .int .i64 s, .bool p.w, .int .i64 n, .int .i64 p.vain, .int .i64 p.rests]
def Dn (w : World) (g : Nat) (p : PS) : Prop := ∃ t s n, Holds w g 48 (dnC p t s n) ∧ (p.w = true → t = p.t ∧ s = p.s ∧ n = p.rounds)
theorem Dn.below {w w' : World} {g : Nat} {p : PS} {B : Nat} (h : Dn w g p) (hb : Below B w w') (hg : g < B) : Dn w' g p := by
  obtain ⟨t, s, n, h, hk⟩ := h
  exact ⟨t, s, n, h.below hb hg, hk⟩
theorem Dn.chg {w w' : World} {g : Nat} {p : PS} {S : Nat → Prop} (h : Dn w g p) (hc : Chg S w w') (hn : ¬ S g) : Dn w' g p := by
  obtain ⟨t, s, n, h, hk⟩ := h
  exact ⟨t, s, n, h.chg hc hn, hk⟩
theorem Dn.lt {w : World} {g : Nat} {p : PS} (h : Dn w g p) : g < w.heap.size := by
  obtain ⟨t, s, n, h, hk⟩ := h
  exact h.lt
def DGoes (g : Nat) (p' : PS) (w w' : World) : Prop := Dn w' g p' ∧ Chg (fun k => k = g) w w'
theorem Wp.dgoes {w0 w : World} {g : Nat} {p : PS} {t s n : Int} (h : Wp w0 g 48 (dnC p t s n) w) (hk : p.w = true → t = p.t ∧ s = p.s ∧ n = p.rounds) : DGoes g p w0 w := ⟨⟨t, s, n, h.node, hk⟩, h.chg⟩
set_option maxHeartbeats 2000000 in
set_option maxRecDepth 100000 in
theorem rbeat_any (w : World) (g : Nat) (p : PS) (h : Dn w g p) (hi : PInv p) : Calls Try.prog 25 #[.pointer (some ⟨g, 0, none⟩)] w fun e w' => e = .returned (.bool (beatB p)) ∧ DGoes g (beatP p) w w' := by
  obtain ⟨dt, ds, dn, h, hk⟩ := h
  have c3 := h.cell 3
  have c4 := h.cell 4
  have c5 := h.cell 5
  have c6 := h.cell 6
  have f3 := h.soft 3
  have f4 := h.soft 4
  have f5 := h.soft 5
  have f6 := h.soft 6
  obtain ⟨me, b, f, t, s, ro, va, re⟩ := p
  have ir := hi.rests
  have io := hi.rounds
  have iv := hi.vain
  have ib := hi.busy
  dsimp only at hk ir io iv ib
  unfold dnC at c3 c4 c5 c6
  dsimp only at c3 c4 c5 c6
  cases b with
  | false =>
    have hB : beatB ⟨me, false, f, t, s, ro, va, re⟩ = false := rfl
    rw [hB]
    have ew := IntWalk.i64_in (re - 1) (by omega)
    by_cases hr : re - 1 < 0
    · have hV : beatP ⟨me, false, f, t, s, ro, va, re⟩ = ⟨me, false, f, t, s, ro, va, 0⟩ := by unfold beatP; simp [hr]
      have HE := Lib.hid (((Wp.start h).put 6 (.int .i64 0)).to (cs' := dnC ⟨me, false, f, t, s, ro, va, 0⟩ dt ds dn) rfl |>.dgoes (by intro e; cases e))
      have hr' : re - 1 ≤ 0 := by omega
      rw [hV]
      clear hV h hi hB io iv ir hk ib c4 c5 f3 f4 f5
      go_enter Try.func25, Try.ntmps25
      go_wp2
      go_ret
      exact ⟨rfl, HE.out⟩
    · have hV : beatP ⟨me, false, f, t, s, ro, va, re⟩ = ⟨me, false, f, t, s, ro, va, re - 1⟩ := by unfold beatP; simp [hr]
      have HE := Lib.hid (((Wp.start h).put 6 (.int .i64 (re - 1))).to (cs' := dnC ⟨me, false, f, t, s, ro, va, re - 1⟩ dt ds dn) rfl |>.dgoes (by intro e; cases e))
      rw [hV]
      clear hV h hi hB io iv ir hk ib c4 c5 f3 f4 f5
      go_enter Try.func25, Try.ntmps25
      go_wp2
      go_ret
      exact ⟨rfl, HE.out⟩
  | true =>
    obtain ⟨rfl, rfl, rfl⟩ := hk rfl
    obtain ⟨rfl, -⟩ := ib rfl
    have ew := IntWalk.i64_in (dn + 1) (by omega)
    have h1 := (Wp.start h).put 4 (.int .i64 (dn + 1))
    by_cases hr : dn + 1 < 2
    · have hV : beatP ⟨me, true, f, dt, ds, dn, va, 0⟩ = ⟨me, true, f, dt, ds, dn + 1, va, 0⟩ := by unfold beatP; simp [hr]
      have hB : beatB ⟨me, true, f, dt, ds, dn, va, 0⟩ = false := by unfold beatB; simp [hr]
      have HE := Lib.hid ((h1.to (cs' := dnC ⟨me, true, f, dt, ds, dn + 1, va, 0⟩ dt ds (dn + 1)) rfl).dgoes (fun _ => ⟨rfl, rfl, rfl⟩))
      rw [hV, hB]
      clear hV h hi hB iv h1 hk ib ir
      go_enter Try.func25, Try.ntmps25
      go_wp2
      go_ret
      exact ⟨rfl, HE.out⟩
    · have hr' : decide (dn + 1 < 2) = false := decide_eq_false hr
      have h2 := h1.put 3 (.bool false)
      have hvv : va = 0 ∨ va = 1 ∨ va = 2 := by omega
      rcases hvv with rfl | rfl | rfl
      · have hV : beatP ⟨me, true, f, dt, ds, dn, 0, 0⟩ = ⟨me, false, 0, 0, 0, 0, 1, 1⟩ := by unfold beatP; simp [hr]
        have hB : beatB ⟨me, true, f, dt, ds, dn, 0, 0⟩ = false := by unfold beatB; simp
        have HE := Lib.hid ((((h2.put 5 (.int .i64 1)).put 6 (.int .i64 1)).to (cs' := dnC ⟨me, false, 0, 0, 0, 0, 1, 1⟩ dt ds (dn + 1)) rfl).dgoes (by intro e; cases e))
        rw [hV, hB]
        clear hV h hi hB iv h1 h2 hk ib ir io
        go_enter Try.func25, Try.ntmps25
        go_wp2
        go_ret
        exact ⟨rfl, HE.out⟩
      · have hV : beatP ⟨me, true, f, dt, ds, dn, 1, 0⟩ = ⟨me, false, 0, 0, 0, 0, 2, 3⟩ := by unfold beatP; simp [hr]
        have hB : beatB ⟨me, true, f, dt, ds, dn, 1, 0⟩ = false := by unfold beatB; simp
        have HE := Lib.hid (((((h2.put 5 (.int .i64 2)).put 6 (.int .i64 1)).put 6 (.int .i64 3)).to (cs' := dnC ⟨me, false, 0, 0, 0, 0, 2, 3⟩ dt ds (dn + 1)) rfl).dgoes (by intro e; cases e))
        rw [hV, hB]
        clear hV h hi hB iv h1 h2 hk ib ir io
        go_enter Try.func25, Try.ntmps25
        go_wp2
        go_ret
        exact ⟨rfl, HE.out⟩
      · have hV : beatP ⟨me, true, f, dt, ds, dn, 2, 0⟩ = ⟨me, false, 0, 0, 0, 0, 0, 0⟩ := by unfold beatP; simp [hr]
        have hB : beatB ⟨me, true, f, dt, ds, dn, 2, 0⟩ = true := by unfold beatB; simp [hr]
        have HE := Lib.hid (((((h2.put 5 (.int .i64 3)).put 5 (.int .i64 0)).put 6 (.int .i64 0)).to (cs' := dnC ⟨me, false, 0, 0, 0, 0, 0, 0⟩ dt ds (dn + 1)) rfl).dgoes (by intro e; cases e))
        rw [hV, hB]
        clear hV h hi hB iv h1 h2 hk ib ir io
        go_enter Try.func25, Try.ntmps25
        go_wp2
        go_ret
        exact ⟨rfl, HE.out⟩
end Go.Proofs.Ytoggpdfkklombaa

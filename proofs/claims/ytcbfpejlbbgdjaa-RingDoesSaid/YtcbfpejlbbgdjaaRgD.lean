/- The document's row: Push, Pop. -/
import Derived.Test.YtcbfpejlbbgdjaaRgS2
namespace Go.Proofs.Ytcbfpejlbbgdjaa.RI
open Go.RowKit
set_option linter.unusedVariables false
set_option linter.unusedSimpArgs false

/-- The document's row at block g; its list lies in no block older than B. -/
def Dr (w : World) (B g : Nat) (room : Int) (L : List Int) : Prop := ∃ A c, Holds w g 36 #[.int .i64 room, .slice A L.length c] ∧ NewRow B w .i64 A L.length c L
section
variable {w w' : World} {B g : Nat} {room : Int} {L : List Int}
theorem Dr.lt (h : Dr w B g room L) : g < w.heap.size := by
  obtain ⟨A, c, hh, _⟩ := h
  exact hh.lt
theorem newRow_chg {S : Nat → Prop} {A : Option Addr} {n c : Nat} (h : NewRow B w .i64 A n c L) (hc : Chg S w w') (hS : ∀ k, B ≤ k → ¬ S k) : NewRow B w' .i64 A n c L :=
  ⟨h.row.keep1 hc.size fun b off e hn o => by
    obtain ⟨b', off', e', hB, hlt, _⟩ := h.block hn
    rw [e] at e'
    simp only [Option.some.injEq, Addr.mk.injEq] at e'
    obtain ⟨rfl, rfl, _⟩ := e'
    exact hc.cell hlt (hS _ hB), h.newer⟩
theorem Dr.chg {S : Nat → Prop} (h : Dr w B g room L) (hc : Chg S w w') (hg : ¬ S g) (hS : ∀ k, B ≤ k → ¬ S k) : Dr w' B g room L := by
  obtain ⟨A, c, hh, hr⟩ := h
  exact ⟨A, c, hh.chg hc hg, newRow_chg hr hc hS⟩
theorem Dr.below (h : Dr w B g room L) (hb : Below w.heap.size w w') : Dr w' B g room L := h.chg (Chg.of_below (fun _ => False) hb) id (fun _ _ => id)
end

theorem dpush_full (w : World) (B g : Nat) (room : Int) (L : List Int) (x : Int) (h : Dr w B g room L) (hf : room ≤ L.length) :
    Calls Try.prog 14 #[.pointer (some ⟨g, 0, none⟩), .int .i64 x] w fun e w' => e = .returned (.int .i64 6) ∧ ∃ m, w' = w.drewN m := by
  obtain ⟨A, c, hh, _⟩ := h
  have c0 := hh.cell 0
  have c1 := hh.cell 1
  have d1 : decide (room ≤ (L.length : Int)) = true := decide_eq_true hf
  clear hh hf
  go_enter Try.func14, Try.ntmps14
  go_upto_region 1 with (fail)
  go_quiet (fail)
  go_wp2
  go_ret
  exact ⟨rfl, _, rfl⟩
/-- Behind the document's Push. -/
def DPushed (B g : Nat) (room : Int) (L : List Int) (x : Int) (w : World) (e : Ending) (w' : World) : Prop := e = .returned (.int .i64 0) ∧ Dr w' B g room (L ++ [x]) ∧ Chg (fun k => k = g) w w'
set_option maxHeartbeats 1000000 in
theorem dpush_any (w : World) (B g : Nat) (room : Int) (L : List Int) (x : Int) (h : Dr w B g room L) (hlt : (L.length : Int) < room) (h64 : L.length ≤ 64) (hx : (Lit.int .i64 x).wf = true) (hgB : g < B) (hBw : B ≤ w.heap.size) :
    Calls Try.prog 14 #[.pointer (some ⟨g, 0, none⟩), .int .i64 x] w (DPushed B g room L x w) := by
  obtain ⟨A, c, hh, hr⟩ := h
  have c0 := hh.cell 0
  have c1 := hh.cell 1
  have d1 : decide (room ≤ (L.length : Int)) = false := decide_eq_false (by omega)
  have hend : ∀ (W : World) (A' : Option Addr) (c' : Nat), Below w.heap.size w W → W.ownsRow w.heap.size 3 1 (.slice A' (L.length + 1) c') (L.length + 1) (L.map (.int .i64) ++ [x].map (.int .i64)) →
      DPushed B g room L x w (.returned (.int .i64 0)) (W.setCell ⟨g, 1, none⟩ (.slice A' (L.length + 1) c')) := fun W A' c' hW hown => by
    rw [← List.map_append] at hown
    have hk := (hh.below hW hh.lt).put 1 (.slice A' (L.length + 1) c')
    have hn := (NewRow.of_own (own_mono hown hBw) (fun z hz => by
      rcases List.mem_append.1 hz with h | h
      · exact hr.row.wf z h
      · rw [List.mem_singleton.1 h]; exact hx)).older (b := g) (i := 1) hgB (.slice A' (L.length + 1) c')
    exact ⟨rfl, ⟨A', c', by rw [List.length_append, List.length_singleton]; exact hk, by rw [List.length_append, List.length_singleton]; exact hn⟩, (Chg.of_below _ hW).trans (Chg.set (S := fun k => k = g) W g 1 _ rfl) (fun _ _ h => h)⟩
  have HEnd := Lib.hid hend
  have HR := Lib.hid hr.row
  have HH := Lib.hid hh
  have HX := Lib.hid (show ∀ n ∈ [x], (Lit.int .i64 n).wf = true from fun n hn => by rw [List.mem_singleton.1 hn]; exact hx)
  obtain ⟨i0, hi, H0⟩ : ∃ i, Try.prog.info? 3 = some i ∧ i.zero = some (.int .i64 0) ∧ i.size = 1 ∧ i.bytes = 8 := by
    obtain ⟨i, hi, hzz⟩ := Option.map_eq_some_iff.1 t_info
    simp only [Prod.mk.injEq] at hzz
    exact ⟨i, hi, hzz⟩
  have HI := Lib.hid hi
  have HI0 := Lib.hid H0
  obtain ⟨n, hn⟩ : ∃ n, L.length = n := ⟨_, rfl⟩
  rw [hn] at c1 d1 HEnd HR HH h64
  clear hi H0 hend hr hh hx hlt hn
  go_enter Try.func14, Try.ntmps14
  go_upto_region 1 with (fail)
  go_quiet (fail)
  go_upto_region 3 with (fail)
  obtain ⟨W, hW⟩ : ∃ W, w.drewN nq = W := ⟨_, rfl⟩
  have hb0 : Below w.heap.size w W := by rw [← hW]; exact below_drewN (Below.refl _ _) _
  have hba := hb0.alloc (by exact hb0.size) (.cells #[] 3)
  have ca := (HH.out.below hba HH.out.lt).cell 1
  have HA := Lib.hid hba
  have HRa := Lib.hid (HR.out.below hba)
  have HOwn := Lib.hid (World.ownsRow_lit (base := W.heap.size) (e := 3) (size := 1) W #[] 0 (Nat.le_refl _) (by simp [maxLen]) (by simp))
  have hsz := hb0.size
  have hsz2 : w.heap.size ≤ (W.alloc (.cells #[] 3)).heap.size := hba.size
  rw [hW]
  clear hW hb0 hba
  go_wp2_with (first
    | (at_builtin; refine wpList_append_row _ rfl (.tmp 16) (.tmp 20) _ rfl w.heap.size 3 i0 _ 8 Try.underlying34 HI.out HI0.out.1 HI0.out.2.1 HI0.out.2.2 rfl _ 0 [] rfl (own_mono HOwn.out hsz) .i64 A n c _ rfl HRa.out (by unfold maxLen; omega) (by omega) hsz2 ?_; intro A3 c3 w3 hown3 hb3; simp only [Nat.zero_add, List.nil_append] at hown3; have HO3 := Lib.hid hown3; have HB3 := Lib.hid (HA.out.trans hb3); clear hown3 hb3)
    | (at_builtin; refine wpList_append_row _ rfl (.tmp 21) (.tmp 23) _ rfl w.heap.size 3 i0 _ 8 Try.underlying34 HI.out HI0.out.1 HI0.out.2.1 HI0.out.2.2 rfl _ n _ rfl (own_keep HO3.out (below_alloc _ _)) .i64 _ 1 1 [x] rfl (IntRow.laid w3 _ _ _ 1 rfl (by simp [maxLen]) HX.out) (by unfold maxLen; omega) (by omega) (by have := HB3.out.size; simp; omega) ?_; intro A4 c4 w4 hown4 hb4; have HO4 := Lib.hid hown4; have hb5 := ((HB3.out.alloc HB3.out.size _).trans hb4); have HB4 := Lib.hid hb5; have k4 := HH.out.below hb5 HH.out.lt; have f4 := k4.soft 1; have c4' := k4.cell 1; clear hown4 hb4 hb5 k4))
  go_ret
  exact HEnd.out _ _ _ HB4.out HO4.out

theorem dpop_none (w : World) (B g : Nat) (room : Int) (h : Dr w B g room []) :
    Calls Try.prog 15 #[.pointer (some ⟨g, 0, none⟩)] w fun e w' => e = .returned (.tuple #[.int .i64 0, .bool false]) ∧ w' = w := by
  obtain ⟨A, c, hh, _⟩ := h
  have c1 : w.cell? ⟨g, 1, none⟩ = some (.slice A 0 c) := hh.cell 1
  clear hh
  go_enter Try.func15, Try.ntmps15
  go_wp2
  go_ret2
  exact ⟨rfl, rfl⟩
/-- Behind the document's Pop of one. -/
def DPopped (B g : Nat) (room : Int) (x : Int) (L : List Int) (w : World) (e : Ending) (w' : World) : Prop := e = .returned (.tuple #[.int .i64 x, .bool true]) ∧ Dr w' B g room L ∧ Chg (fun k => k = g) w w'
theorem dpop_any (w : World) (B g : Nat) (room : Int) (x : Int) (L : List Int) (h : Dr w B g room (x :: L)) (h64 : (x :: L).length ≤ 64) (hgB : g < B) :
    Calls Try.prog 15 #[.pointer (some ⟨g, 0, none⟩)] w (DPopped B g room x L w) := by
  obtain ⟨A, c, hh, hr⟩ := h
  have hlen : (x :: L).length = L.length + 1 := rfl
  obtain ⟨b, off, rfl, hBb, hbw, hc⟩ := hr.block (by simp)
  have q0 := hc 0 (by simp)
  have q : w.cell? ⟨b, off, none⟩ = some (.int .i64 x) := by simpa using q0
  have hcut := hr.cut (m := 1) (by simp)
  rw [hlen, Nat.add_sub_cancel, show (x :: L).drop 1 = L from rfl] at hcut
  have hcap := hr.row.cap_le
  have hmax := hr.row.max
  unfold maxLen at hmax
  rw [hlen] at hh hcap
  have c1 : w.cell? ⟨g, 1, none⟩ = some (.slice (some ⟨b, off, none⟩) (L.length + 1) c) := hh.cell 1
  have f1 := hh.soft 1
  have hend : ∀ A' c', NewRow B w .i64 A' L.length c' L → DPopped B g room x L w (.returned (.tuple #[.int .i64 x, .bool true])) (w.setCell ⟨g, 1, none⟩ (.slice A' L.length c')) := fun A' c' hn =>
    ⟨rfl, ⟨A', c', hh.put 1 _, hn.older hgB _⟩, Chg.set (S := fun k => k = g) w g 1 _ rfl⟩
  have HEnd := Lib.hid hend
  have HCut := Lib.hid hcut
  obtain ⟨n, hn⟩ : ∃ n, L.length = n := ⟨_, rfl⟩
  rw [hn] at c1 hcap HEnd HCut
  have hz : (((n : Int) + 1) == 0) = false := by simp; omega
  have hz2 : (((n + 1 : Nat) : Int) == 0) = false := by simp; omega
  have hin : (1 : Int) ≤ ((n + 1 : Nat) : Int) := by omega
  have h0n : (0 : Int) < ((n + 1 : Nat) : Int) := by omega
  have hnc : ((n + 1 : Nat) : Int) ≤ (c : Int) := by omega
  have e1 := IntWalk.i64_in (((n + 1 : Nat) : Int)) (by omega)
  have e2 := IntWalk.i64_in ((c : Int)) (by omega)
  have hc64 : n + 1 ≤ 64 := by rw [← hn]; exact h64
  clear hh hr hc q0 hcut hend hn hlen h64
  by_cases hc1 : c = 1
  · have HC1 := Lib.hid hc1
    go_enter Try.func15, Try.ntmps15
    go_wp2
    go_ret2
    refine HEnd.out _ _ ?_
    have := HCut.out
    rw [if_pos HC1.out, HC1.out] at this
    exact this
  · have HC1 := Lib.hid hc1
    go_enter Try.func15, Try.ntmps15
    go_wp2
    go_ret2
    refine HEnd.out _ _ ?_
    have := HCut.out
    rw [if_neg HC1.out] at this
    simpa [Go.WideShapes.add_plain] using this
end Go.Proofs.Ytcbfpejlbbgdjaa.RI

/- The document's log: Take. -/
import Derived.Test.YtjifnnloncanpaaEvD
namespace Go.Proofs.Ytjifnnloncanpaa
open Go.RowKit
set_option linter.unusedVariables false
set_option linter.unusedSimpArgs false

theorem dtake_none (w : World) (B d : Nat) (last : Int) (h : Dl w B d [] last) : Calls Try.prog 16 #[.pointer (some ⟨d, 0, none⟩)] w fun e w' => e = .returned (.tuple #[.int .i64 0, .string ⟨#[]⟩, .bool false]) ∧ w' = w := by
  obtain ⟨A, c, A2, c2, hh, _⟩ := h
  have c0 : w.cell? ⟨d, 0, none⟩ = some (.slice A 0 c) := hh.cell 0
  clear hh
  go_enter Try.func16, Try.ntmps16
  go_wp2
  refine bodyPost_ret (results_tmp3 rfl _ _ _) rfl ?_
  exact ⟨rfl, rfl⟩
/-- Behind the document's Take of one. -/
def DTook (B d : Nat) (x : Ev) (M : List Ev) (last : Int) (w : World) (e : Ending) (w' : World) : Prop := e = .returned (.tuple #[.int .i64 x.id, .string x.lab, .bool true]) ∧ Dl w' B d M last ∧ Chg (fun k => k = d) w w'
set_option maxHeartbeats 2000000 in
theorem dtake_any (w : World) (B d : Nat) (x : Ev) (M : List Ev) (last : Int) (h : Dl w B d (x :: M) last) (h16 : (x :: M).length ≤ 16) (hdB : d < B) :
    Calls Try.prog 16 #[.pointer (some ⟨d, 0, none⟩)] w (DTook B d x M last w) := by
  obtain ⟨A, c, A2, c2, hh, h1, h2⟩ := h
  have hlen : (x :: M).length = M.length + 1 := rfl
  obtain ⟨b, off, rfl, hBb, hbw, hc⟩ := h1.cell (by simp)
  obtain ⟨b2, off2, rfl, hBb2, hbw2, hc2⟩ := h2.cell (by simp)
  have q1 : w.cell? ⟨b, off, none⟩ = some (.int .i64 x.id) := hc 0 _ rfl
  have q2 : w.cell? ⟨b2, off2, none⟩ = some (.string x.lab) := hc2 0 _ rfl
  have hcut1 := h1.cut (m := 1) (by simp)
  have hcut2 := h2.cut (m := 1) (by simp)
  rw [hlen, Nat.add_sub_cancel, show (idsOf (x :: M)).drop 1 = idsOf M from rfl] at hcut1
  rw [hlen, Nat.add_sub_cancel, show (labsOf (x :: M)).drop 1 = labsOf M from rfl] at hcut2
  have hcap1 := h1.cap_le
  have hcap2 := h2.cap_le
  have hmax1 := h1.max
  have hmax2 := h2.max
  unfold maxLen at hmax1 hmax2
  rw [hlen] at hh hcap1 hcap2
  have c0 : w.cell? ⟨d, 0, none⟩ = some (.slice (some ⟨b, off, none⟩) (M.length + 1) c) := hh.cell 0
  have c1 : w.cell? ⟨d, 1, none⟩ = some (.slice (some ⟨b2, off2, none⟩) (M.length + 1) c2) := hh.cell 1
  have hend : ∀ (m : Nat) A' c' A2' c2', VRow B w A' M.length c' (idsOf M) → VRow B w A2' M.length c2' (labsOf M) → DTook B d x M last w (.returned (.tuple #[.int .i64 x.id, .string x.lab, .bool true])) (((w.drewN m).setCell ⟨d, 0, none⟩ (.slice A' M.length c')).setCell ⟨d, 1, none⟩ (.slice A2' M.length c2')) := fun m A' c' A2' c2' hv1 hv2 => by
    have hk := ((hh.drewN m).put 0 (.slice A' M.length c')).put 1 (.slice A2' M.length c2')
    have hset : Chg (fun k => k = d) w (((w.drewN m).setCell ⟨d, 0, none⟩ (.slice A' M.length c')).setCell ⟨d, 1, none⟩ (.slice A2' M.length c2')) :=
      (((Chg.refl _ w).drewN m).trans (Chg.set (S := fun k => k = d) _ d 0 _ rfl) (fun _ _ h => h)).trans (Chg.set (S := fun k => k = d) _ d 1 _ rfl) (fun _ _ h => h)
    exact ⟨rfl, ⟨A', c', A2', c2', hk, hv1.chg hset (fun k hk => by omega), hv2.chg hset (fun k hk => by omega)⟩, hset⟩
  have f0 := fun (m : Nat) => (hh.drewN m).soft 0
  have g0 := fun (m : Nat) => (hh.drewN m).cell 0
  have f1 := fun (m : Nat) v => ((hh.drewN m).put 0 v).soft 1
  have g1 : ∀ (m : Nat) v, ((w.drewN m).setCell ⟨d, 0, none⟩ v).cell? ⟨d, 1, none⟩ = some (.slice (some ⟨b2, off2, none⟩) (M.length + 1) c2) := fun (m : Nat) v => ((hh.drewN m).put 0 v).cell 1
  have HEnd := Lib.hid hend
  have HC1 := Lib.hid hcut1
  have HC2 := Lib.hid hcut2
  obtain ⟨n, hn⟩ : ∃ n, M.length = n := ⟨_, rfl⟩
  rw [hn] at c0 c1 hcap1 hcap2 HEnd HC1 HC2
  simp only [hn] at g1
  have hz : (((n : Int) + 1) == 0) = false := by simp; omega
  have hz2 : (((n + 1 : Nat) : Int) == 0) = false := by simp; omega
  have hin : (1 : Int) ≤ ((n + 1 : Nat) : Int) := by omega
  have h0n : (0 : Int) < ((n + 1 : Nat) : Int) := by omega
  have hnc : ((n + 1 : Nat) : Int) ≤ (c : Int) := by omega
  have hnc2 : ((n + 1 : Nat) : Int) ≤ (c2 : Int) := by omega
  have e1 := IntWalk.i64_in (((n + 1 : Nat) : Int)) (by omega)
  have e2 := IntWalk.i64_in ((c : Int)) (by omega)
  have e3 := IntWalk.i64_in ((c2 : Int)) (by omega)
  have HF0 := Lib.hid f0
  have HF1 := Lib.hid f1
  have HG1 := Lib.hid g1
  clear hh h1 h2 hc hc2 hcut1 hcut2 hend hn hlen h16 f0 f1 g0 g1
  by_cases hc1 : c = 1
  all_goals by_cases hc2 : c2 = 1
  all_goals
    have HQ1 := Lib.hid hc1
    have HQ2 := Lib.hid hc2
    go_enter Try.func16, Try.ntmps16
    go_upto_region 3 with (fail)
    go_quiet (fail)
    have f0 := HF0.out nq
    have f1 := HF1.out nq
    have g1 := HG1.out nq
    go_wp2
    refine bodyPost_ret (results_tmp3 rfl _ _ _) rfl ?_
    refine HEnd.out nq _ _ _ _ ?_ ?_
    · first
      | (have := HC1.out; rw [if_pos HQ1.out, HQ1.out] at this; exact this)
      | (have := HC1.out; rw [if_neg HQ1.out] at this; simpa [Go.WideShapes.add_plain] using this)
    · first
      | (have := HC2.out; rw [if_pos HQ2.out, HQ2.out] at this; exact this)
      | (have := HC2.out; rw [if_neg HQ2.out] at this; simpa [Go.WideShapes.add_plain] using this)
end Go.Proofs.Ytjifnnloncanpaa

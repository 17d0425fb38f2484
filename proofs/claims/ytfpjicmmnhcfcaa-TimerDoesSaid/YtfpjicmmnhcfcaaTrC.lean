/- The document's row of timers: First, Due. -/
import Derived.Test.YtfpjicmmnhcfcaaTrB
namespace Go.Proofs.Ytfpjicmmnhcfcaa
open Go.RowKit

/-- The best of the first k. -/
def Best (M : List One3) (k : Nat) (r : Int) : Prop := (k = 0 ∧ r = -1) ∨ ∃ j : Nat, j < k ∧ r = j ∧ ∀ i, i < k → ¬ ltO (M.getD i (0, 0, 0)) (M.getD j (0, 0, 0))
theorem not_ltO {x y : One3} (h1 : ¬ x.1 < y.1) (h2 : ¬ (x.1 = y.1 ∧ x.2.2 < y.2.2)) : ¬ ltO x y := fun h => h.elim h1 h2
theorem ltO_trans {x y z : One3} (h : ¬ ltO x y) (h' : ltO z y) : ¬ ltO x z := by
  intro hx
  apply h
  unfold ltO at *
  omega
theorem Best.first {M : List One3} {k : Nat} {r : Int} (h : Best M k r) (hk : k = M.length) : IsFirst M r := by
  rcases h with ⟨h, rfl⟩ | ⟨j, hj, rfl, hm⟩
  · exact .inl ⟨List.eq_nil_of_length_eq_zero (by omega), rfl⟩
  · exact .inr ⟨j, by omega, rfl, fun i hi => hm i (by omega)⟩
theorem Best.keep {M : List One3} {k j : Nat} (h : ∀ i, i < k → ¬ ltO (M.getD i (0, 0, 0)) (M.getD j (0, 0, 0))) (hj : j < k) (hn : ¬ ltO (M.getD k (0, 0, 0)) (M.getD j (0, 0, 0))) : Best M (k + 1) j :=
  .inr ⟨j, by omega, rfl, fun i hi => by
    by_cases hik : i = k
    · rw [hik]
      exact hn
    · exact h i (by omega)⟩
theorem Best.take {M : List One3} {k : Nat} (h : k = 0 ∨ ∃ j : Nat, j < k ∧ (∀ i, i < k → ¬ ltO (M.getD i (0, 0, 0)) (M.getD j (0, 0, 0))) ∧ ltO (M.getD k (0, 0, 0)) (M.getD j (0, 0, 0))) : Best M (k + 1) k :=
  .inr ⟨k, by omega, rfl, fun i hi => by
    by_cases hik : i = k
    · rw [hik]
      exact ltO_irr _
    · rcases h with h | ⟨j, _, hm, hl⟩
      · omega
      · exact ltO_trans (hm i (by omega)) hl⟩

set_option maxHeartbeats 4000000 in
theorem rfirst_any (w : World) (B g : Nat) (v : Value) (M : List One3) (T : Int) (h : Rr w B g v M T) :
    Calls Try.prog 23 #[.pointer (some ⟨g, 0, none⟩)] w fun e w' => ∃ r, e = .returned (.int .i64 r) ∧ IsFirst M r ∧ Below w.heap.size w w' := by
  obtain ⟨hBg, h16, A, c, rfl, hh, he⟩ := h
  have hgw := hh.lt
  have c0 := hh.cell 0
  obtain ⟨hnc, hcm⟩ := he.cap
  unfold maxLen at hcm
  have HE := Lib.hid he
  have HH := Lib.hid hh
  clear hh he
  go_enter Try.func23, Try.ntmps23
  go_wp2
  go_loopw [3, 11] (fun x y wr => ∃ (k : Nat) (r : Int), k ≤ M.length ∧ y = .int .i64 k ∧ x = .int .i64 r ∧ Best M k r ∧ Below w.heap.size w wr) (fun _ y _ => M.length - (intOf y).toNat)
  case atStart => exact ⟨0, -1, Nat.zero_le _, rfl, rfl, .inl ⟨rfl, rfl⟩, Below.refl _ _⟩
  case round =>
    obtain ⟨k, r, hk, rfl, rfl, hbest, hb⟩ := hrel
    have HB := Lib.hid hb
    have hsz := hb.size
    clear hb
    by_cases hlt : k < M.length
    · obtain ⟨q, rfl, hBq, hqw, q0, q1, q2⟩ := HE.out.at hlt
      obtain ⟨a, ha⟩ : ∃ a, (M.getD k (0, 0, 0)).1 = a := ⟨_, rfl⟩
      obtain ⟨b, hb⟩ : ∃ b, (M.getD k (0, 0, 0)).2.1 = b := ⟨_, rfl⟩
      obtain ⟨t, ht⟩ : ∃ t, (M.getD k (0, 0, 0)).2.2 = t := ⟨_, rfl⟩
      rw [ha] at q0
      rw [hb] at q1
      rw [ht] at q2
      have c0 : wr.cell? ⟨q, k * 3, none⟩ = some (.int .i64 a) := (HB.out.cell (p := ⟨q, k * 3, none⟩) hqw).trans q0
      have c1 : wr.cell? ⟨q, k * 3 + 1, none⟩ = some (.int .i64 b) := (HB.out.cell (p := ⟨q, k * 3 + 1, none⟩) hqw).trans q1
      have c2 : wr.cell? ⟨q, k * 3 + 2, none⟩ = some (.int .i64 t) := (HB.out.cell (p := ⟨q, k * 3 + 2, none⟩) hqw).trans q2
      have HA := Lib.hid ha
      have HT := Lib.hid ht
      have d0 : wr.cell? ⟨g, 0, none⟩ = some (.slice (some ⟨q, 0, none⟩) M.length c) := (HB.out.cell (p := ⟨g, 0, none⟩) hgw).trans (HH.out.cell 0)
      clear q0 q1 q2 ha hb ht
      rcases hbest with ⟨hk0, rfl⟩ | ⟨j, hj, rfl, hm⟩
      · have HK := Lib.hid (Best.take (M := M) (.inl hk0))
        clear hk0
        go_upto_region 5 with fail
        go_quiet (fail)
        go_wp2
        go_roundw
        case rel => exact ⟨k + 1, k, by omega, by go_num, rfl, HK.out, below_drewN (HB.out.alloc hsz _) _⟩
        case measure => simp [intOf]; omega
      · obtain ⟨q', hq', _, _, p0, _, p2⟩ := HE.out.at (k := j) (by omega)
        simp only [Option.some.injEq, Addr.mk.injEq, and_true] at hq'
        subst hq'
        obtain ⟨a', ha'⟩ : ∃ a', (M.getD j (0, 0, 0)).1 = a' := ⟨_, rfl⟩
        obtain ⟨t', ht'⟩ : ∃ t', (M.getD j (0, 0, 0)).2.2 = t' := ⟨_, rfl⟩
        rw [ha'] at p0
        rw [ht'] at p2
        have e0 : wr.cell? ⟨q, j * 3, none⟩ = some (.int .i64 a') := (HB.out.cell (p := ⟨q, j * 3, none⟩) hqw).trans p0
        have e2 : wr.cell? ⟨q, j * 3 + 2, none⟩ = some (.int .i64 t') := (HB.out.cell (p := ⟨q, j * 3 + 2, none⟩) hqw).trans p2
        have HA' := Lib.hid ha'
        have HT' := Lib.hid ht'
        have HM := Lib.hid hm
        have hj0 : (0 : Int) ≤ (j : Int) := by omega
        have hba := below_alloc wr (.cells #[.int .i64 a, .int .i64 b, .int .i64 t] 54)
        have D0 := (hba.cell (p := ⟨g, 0, none⟩) (by show g < _; omega)).trans d0
        have E0 := (hba.cell (p := ⟨q, j * 3, none⟩) (by show q < _; omega)).trans e0
        have E2 := (hba.cell (p := ⟨q, j * 3 + 2, none⟩) (by show q < _; omega)).trans e2
        clear hba
        have hjn : (j : Int) < (M.length : Int) := by omega
        have hneg : decide ((j : Int) < 0) = false := decide_eq_false (by omega)
        clear p0 p2 ha' ht' hm
        by_cases h1 : a < a'
        · have hl : ltO (M.getD k (0, 0, 0)) (M.getD j (0, 0, 0)) := .inl (by rw [HA.out, HA'.out]; exact h1)
          have HK := Lib.hid (Best.take (M := M) (k := k) (.inr ⟨j, hj, HM.out, hl⟩))
          have t1 : decide (a < a') = true := decide_eq_true h1
          clear hl
          go_upto_region 5 with fail
          go_quiet (fail)
          go_wp2
          go_roundw
          case rel => exact ⟨k + 1, k, by omega, by go_num, rfl, HK.out, below_drewN (HB.out.alloc hsz _) _⟩
          case measure => simp [intOf]; omega
        · have t1 : decide (a < a') = false := decide_eq_false h1
          by_cases h2 : a = a'
          · have t2 : (a == a') = true := by simp [h2]
            by_cases h3 : t < t'
            · have hl : ltO (M.getD k (0, 0, 0)) (M.getD j (0, 0, 0)) := .inr ⟨by rw [HA.out, HA'.out]; exact h2, by rw [HT.out, HT'.out]; exact h3⟩
              have HK := Lib.hid (Best.take (M := M) (k := k) (.inr ⟨j, hj, HM.out, hl⟩))
              have t3 : decide (t < t') = true := decide_eq_true h3
              have H2 := Lib.hid h2
              clear hl h2
              go_upto_region 5 with fail
              go_quiet (fail)
              go_wp2
              go_roundw
              case rel => exact ⟨k + 1, k, by omega, by go_num, rfl, HK.out, below_drewN (HB.out.alloc hsz _) _⟩
              case measure => simp [intOf]; omega
            · have hl : ¬ ltO (M.getD k (0, 0, 0)) (M.getD j (0, 0, 0)) := not_ltO (by rw [HA.out, HA'.out]; exact h1) (by rw [HT.out, HT'.out]; exact fun h => h3 h.2)
              have HK := Lib.hid (Best.keep HM.out hj hl)
              have t3 : decide (t < t') = false := decide_eq_false h3
              have H2 := Lib.hid h2
              clear hl h2
              go_upto_region 5 with fail
              go_quiet (fail)
              go_wp2
              go_roundw
              case rel => exact ⟨k + 1, j, by omega, by go_num, rfl, HK.out, below_drewN (HB.out.alloc hsz _) _⟩
              case measure => simp [intOf]; omega
          · have t2 : (a == a') = false := by simp [h2]
            have hl : ¬ ltO (M.getD k (0, 0, 0)) (M.getD j (0, 0, 0)) := not_ltO (by rw [HA.out, HA'.out]; exact h1) (by rw [HA.out, HA'.out]; exact fun h => h2 h.1)
            have HK := Lib.hid (Best.keep HM.out hj hl)
            clear hl
            go_upto_region 5 with fail
            go_quiet (fail)
            go_wp2
            go_roundw
            case rel => exact ⟨k + 1, j, by omega, by go_num, rfl, HK.out, below_drewN (HB.out.alloc hsz _) _⟩
            case measure => simp [intOf]; omega
    · have hkn : k = M.length := by omega
      have HF := Lib.hid (hbest.first hkn)
      clear hkn hbest
      go_wp2
      go_ret
      exact ⟨r, rfl, HF.out, HB.out⟩
end Go.Proofs.Ytfpjicmmnhcfcaa

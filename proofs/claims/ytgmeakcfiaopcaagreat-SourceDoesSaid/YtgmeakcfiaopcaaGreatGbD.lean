/- The document's map: Of, Global. -/
import Derived.Test.YtgmeakcfiaopcaaGreatGbC
import Derived.Test.YtgmeakcfiaopcaaGreatBunM
import Derived.Test.YtgmeakcfiaopcaaGreatSpF
namespace Go.Proofs.YtgmeakcfiaopcaaGreat
open Go.RowKit
set_option linter.unusedVariables false
set_option linter.unusedSimpArgs false

theorem Ents8.take {L : List Ent} (h : Ents8 L) (k : Nat) : Ents8 (L.take k) := ⟨by rw [List.length_take]; have := h.le; omega, fun e he => h.can e (List.mem_of_mem_take he)⟩
theorem rmap_none (d : Int) (w : World) (B : Nat) (A : Option Addr) (c : Nat) (h : TRow w B A 0 c []) :
    Calls Tryz.prog 67 #[.int .i64 d, .slice A 0 c] w fun e w' => e = .returned (.tuple #[mapV 0 0 0 0 0, .bool false]) ∧ Below w.heap.size w w' := by
  have hcap := h.max
  unfold mapV
  go_enter Tryz.func67, Tryz.ntmps67
  go_wp2
  refine bodyPost_ret (results_row_tmp rfl _ _ w.heap.size 134 [.int .i64 0, .int .i64 0, .int .i64 0, .int .i64 0, .int .i64 0] _ _ rfl (Holds.new w _ _) Tryz.underlying134 rfl (by kernel_rfl) rfl) rfl ?_
  exact ⟨rfl, below_alloc _ _⟩
set_option maxHeartbeats 2000000 in
theorem rmap_some (d : Int) (w : World) (B : Nat) (A : Option Addr) (n c : Nat) (L : List Ent) (h : TRow w B A n c L) (h8 : Ents8 L) (hL : L ≠ []) :
    Calls Tryz.prog 67 #[.int .i64 d, .slice A n c] w fun e w' => e = .returned (.tuple #[mapOf d L, .bool true]) ∧ Below w.heap.size w w' := by
  have HB := Lib.hid (Box.start w 134 #[.int .i64 0, .int .i64 0, .int .i64 0, .int .i64 0, .int .i64 0])
  have H := Lib.hid h
  have HL := Lib.hid h.len
  have hcap := h.max
  have hn1 : 0 < n := by have := List.length_pos_iff.2 hL; have := h.len; omega
  have hn8 : n ≤ 8 := by have := h.len; have := h8.le; omega
  have hne : ((n : Int) == 0) = false := by
    have : ¬ (n : Int) = 0 := by omega
    simpa using this
  have H8 := Lib.hid h8
  have HF := Lib.hid (sums_fit h8.le h8.can)
  have hlen := h.len
  unfold mapOf mapV locV offV
  rw [hlen]
  obtain ⟨S, hS⟩ : ∃ x, sumE entL L = x := ⟨_, rfl⟩
  obtain ⟨T, hT⟩ : ∃ x, sumE entO L = x := ⟨_, rfl⟩
  obtain ⟨ab, hab⟩ : ∃ x, ofV d L = x := ⟨_, rfl⟩
  obtain ⟨mo, hmo⟩ : ∃ x, mostL L = x := ⟨_, rfl⟩
  have HS := Lib.hid hS
  have HT := Lib.hid hT
  have HA := Lib.hid hab
  have HM := Lib.hid hmo
  rw [hS, hT] at HF
  have HFS := fun W => rfloor_yes S (n : Int) W HF.out.1 (by omega) (by omega)
  have HFT := fun W => rfloor_yes T (n : Int) W HF.out.2 (by omega) (by omega)
  have HFS' := Lib.hid HFS
  have HFT' := Lib.hid HFT
  simp only [hS, hT, hab, hmo]
  clear hS hT hab hmo h h8 hL HFS HFT hlen
  go_enter Tryz.func67, Tryz.ntmps67
  go_wp2
  go_loopw [7, 8, 24] (fun x y i wr => ∃ k : Nat, k ≤ n ∧ i = .int .i64 (k : Int) ∧ x = .int .i64 (sumE entL (L.take k)) ∧ y = .int .i64 (sumE entO (L.take k)) ∧ Box w 134 #[.int .i64 0, .int .i64 0, .int .i64 0, .int .i64 0, .int .i64 0] wr) (fun _ _ i _ => n - (intOf i).toNat)
  case atStart => exact ⟨0, Nat.zero_le _, rfl, rfl, rfl, HB.out⟩
  case round =>
    obtain ⟨k, hk, rfl, rfl, rfl, hbx⟩ := hrel
    have HX := Lib.hid hbx
    clear hbx
    by_cases hlt : k < n
    · obtain ⟨x, hx⟩ : ∃ x, L[k]? = some x := ⟨_, List.getElem?_eq_getElem (by rw [HL.out]; exact hlt)⟩
      obtain ⟨b, off, rfl, q0, q1, q2⟩ := (H.out.below HX.out.below).at hx
      have hnext : L.take (k + 1) = L.take k ++ [x] := by
        have hl := (List.getElem?_eq_some_iff.1 hx).1
        rw [List.take_succ_eq_append_getElem hl]
        rw [List.getElem?_eq_getElem hl] at hx
        cases hx
        rfl
      obtain ⟨x1, x2, x3⟩ := x
      dsimp only at q0 q1 q2
      have h8k := H8.out.take (k + 1)
      have hf := sums_fit h8k.le h8k.can
      rw [hnext, sumE_snoc, sumE_snoc] at hf
      have n1 : sumE entL (L.take (k + 1)) = sumE entL (L.take k) + x1 := by rw [hnext, sumE_snoc]; rfl
      have n2 : sumE entO (L.take (k + 1)) = sumE entO (L.take k) + x2 := by rw [hnext, sumE_snoc]; rfl
      have HN := Lib.hid (And.intro n1 n2)
      obtain ⟨s, hs⟩ : ∃ s, sumE entL (L.take k) = s := ⟨_, rfl⟩
      obtain ⟨t, ht⟩ : ∃ s, sumE entO (L.take k) = s := ⟨_, rfl⟩
      simp only [hs, ht] at HN hf ⊢
      have f1 := IntWalk.i64_in (s + x1) hf.1
      have f2 := IntWalk.i64_in (t + x2) hf.2
      have ewk := IntWalk.i64_in ((k : Int) + 1) (by omega)
      have HX2 := Lib.hid (HX.out.alloc (.cells #[.int .i64 x1, .int .i64 x2, .int .i64 x3] 51))
      clear hx hnext h8k hf n1 n2 hs ht
      go_wp2
      go_roundw
      case rel => exact ⟨k + 1, by omega, by go_num, by rw [HN.out.1], by rw [HN.out.2], HX2.out⟩
      case measure => simp [intOf]; omega
    · have htk : L.take k = L := List.take_of_length_le (by rw [HL.out]; omega)
      rw [htk, HS.out, HT.out]
      have l1 : ¬ (k : Int) < n := by omega
      clear htk
      go_wp2_with (first
        | (go_at_call 78; with_reducible refine (HFS'.out _).mono ?_; rintro e w2 ⟨rfl, m2, rfl⟩)
        | (go_at_call 78; with_reducible refine (HFT'.out _).mono ?_; rintro e w3 ⟨rfl, m3, rfl⟩; have HX3 := Lib.hid (HX.out.drewN (m2 + m3)); have hro := rof_any d _ B A n c L (H.out.below HX3.out.below); rw [HA.out] at hro)
        | (go_at_call 79; refine hro.mono ?_; rintro e w4 ⟨rfl, hb4⟩; have HX4 := Lib.hid (HX3.out.next hb4); have hho := rhops_any w4 B A n c L (H.out.below HX4.out.below) (by omega); rw [HM.out] at hho; clear hb4 hro)
        | (go_at_call 80; refine hho.mono ?_; rintro e w5 ⟨rfl, hb5⟩; have HB5 := Lib.hid (HX4.out.next hb5); have c0 := HB5.out.holds.cell 0; have c1 := HB5.out.holds.cell 1; have c2 := HB5.out.holds.cell 2; have c3 := HB5.out.holds.cell 3; have c4 := HB5.out.holds.cell 4; have s0 := HB5.out.holds.soft 0; have s1 := HB5.out.holds.soft 1; have s2 := HB5.out.holds.soft 2; have s3 := HB5.out.holds.soft 3; have s4 := HB5.out.holds.soft 4; clear hb5 hho))
      refine bodyPost_ret (results_row_tmp rfl _ _ w.heap.size 134 [.int .i64 (S / n), .int .i64 (T / n), .int .i64 ab.1, .int .i64 ab.2, .int .i64 mo] _ _ rfl (((((HB5.out.holds.put 0 _).put 1 _).put 2 _).put 3 _).put 4 _) Tryz.underlying134 rfl (by kernel_rfl) rfl) rfl ?_
      exact ⟨rfl, ((((HB5.out.below.setCell (by dsimp only; omega) _).setCell (by dsimp only; omega) _).setCell (by dsimp only; omega) _).setCell (by dsimp only; omega) _).setCell (by dsimp only; omega) _⟩
set_option maxHeartbeats 1000000 in
theorem rglobal_any (c e l o a b h t g : Int) (ok : Bool) (w : World) (hm : MapOk c e l o a b) (hg : Glob l o a b t g ok) :
    Calls Tryz.prog 68 #[mapV l o a b h, .int .i64 t] w fun e w' => e = .returned (.tuple #[.int .i64 g, .bool ok]) ∧ Below w.heap.size w w' := by
  have HB := Lib.hid (Box.start w 134 #[.int .i64 l, .int .i64 o, .int .i64 a, .int .i64 b, .int .i64 h])
  have HM := Lib.hid hm
  obtain ⟨c0, c1, c2, c3, c4, _⟩ := HB.out.cells5
  obtain ⟨hg⟩ := hg
  by_cases h1 : CanT t
  · have d1 : decide (t < 0) = false := decide_eq_false (by have := h1.1; omega)
    have d2 : decide (1125899906842624 < t) = false := decide_eq_false (by have := h1.2; omega)
    have hre := fun W => raw_any c e l o a b h t W HM.out (by have := h1.1; omega) (by have := h1.2; omega)
    unfold mapV at hre ⊢
    obtain ⟨R, hR⟩ : ∃ R, rawV l o a b t = R := ⟨_, rfl⟩
    simp only [hR] at hre hg
    have HR := Lib.hid hre
    clear hre hm hR
    rcases hg with ⟨_, h2, rfl, rfl⟩ | ⟨h2, rfl, rfl⟩
    · have d3 : decide (g < 0) = false := decide_eq_false (by have := h2.1; omega)
      have d4 : decide (1125899906842624 < g) = false := decide_eq_false (by have := h2.2; omega)
      clear h2 h1
      go_enter Tryz.func68, Tryz.ntmps68
      go_wp2_with (go_at_call 81; refine (HR.out _).mono ?_; rintro e w2 ⟨rfl, hb2⟩; have HB2 := Lib.hid (HB.out.next hb2); clear hb2)
      go_ret2
      exact ⟨rfl, HB2.out.below⟩
    · have h2' : ¬ CanT R := fun k => h2 ⟨h1, k⟩
      by_cases h3 : R < 0
      · have d3 : decide (R < 0) = true := decide_eq_true h3
        clear h2 h2' h1
        go_enter Tryz.func68, Tryz.ntmps68
        go_wp2_with (go_at_call 81; refine (HR.out _).mono ?_; rintro e w2 ⟨rfl, hb2⟩; have HB2 := Lib.hid (HB.out.next hb2); clear hb2)
        go_ret2
        exact ⟨rfl, HB2.out.below⟩
      · have d3 : decide (R < 0) = false := decide_eq_false h3
        have h4 : 1125899906842624 < R := Classical.byContradiction fun k => h2' ⟨by omega, by omega⟩
        have d4 : decide (1125899906842624 < R) = true := decide_eq_true h4
        clear h2 h2' h1
        go_enter Tryz.func68, Tryz.ntmps68
        go_wp2_with (go_at_call 81; refine (HR.out _).mono ?_; rintro e w2 ⟨rfl, hb2⟩; have HB2 := Lib.hid (HB.out.next hb2); clear hb2)
        go_ret2
        exact ⟨rfl, HB2.out.below⟩
  · obtain ⟨rfl, rfl⟩ : g = 0 ∧ ok = false := by
      rcases hg with ⟨k, _⟩ | ⟨_, k⟩
      · exact absurd k h1
      · exact k
    clear hg hm
    unfold mapV
    by_cases h3 : t < 0
    · have d1 : decide (t < 0) = true := decide_eq_true h3
      clear h1
      go_enter Tryz.func68, Tryz.ntmps68
      go_wp2
      go_ret2
      exact ⟨rfl, HB.out.below⟩
    · have d1 : decide (t < 0) = false := decide_eq_false h3
      have h4 : 1125899906842624 < t := Classical.byContradiction fun k => h1 ⟨by omega, by omega⟩
      have d2 : decide (1125899906842624 < t) = true := decide_eq_true h4
      clear h1
      go_enter Tryz.func68, Tryz.ntmps68
      go_wp2
      go_ret2
      exact ⟨rfl, HB.out.below⟩
end Go.Proofs.YtgmeakcfiaopcaaGreat

/- The document's list of entries: Add, Hops. -/
import Derived.Test.YtkibpialacnlhaaTbR
import Derived.Test.YtkibpialacnlhaaTbB
import Derived.Test.YtkibpialacnlhaaTbD
import Derived.BigQuiet
import Derived.Lib.SlFresh
namespace Go.Proofs.Ytkibpialacnlhaa
open Go.RowKit
set_option linter.unusedVariables false
set_option linter.unusedSimpArgs false

theorem run_max3 (a b : Int) (w : World) : (Builtin.max_ #[3, 3] 3 #[.int .i64 a, .int .i64 b]).run Try.prog w = .ok (.int .i64 (if a < b then b else a)) w := by
  simp [Builtin.max_, Builtin.max2, go_sem]
theorem rhops_any (w : World) (B : Nat) (A : Option Addr) (n c : Nat) (L : List Ent) (h : TRow w B A n c L) (hn : n ≤ 1000) :
    Calls Try.prog 29 #[.slice A n c] w fun e w' => e = .returned (.int .i64 (mostL L)) ∧ Below w.heap.size w w' := by
  have H := Lib.hid h
  have HL := Lib.hid h.len
  have HMx := Lib.hid (fun a b w => run_max3 a b w)
  clear h
  go_enter Try.func29, Try.ntmps29
  go_wp2
  go_loopw [3, 8] (fun x i wr => ∃ k : Nat, k ≤ n ∧ i = .int .i64 (k : Int) ∧ x = .int .i64 (mostL (L.take k)) ∧ Below w.heap.size w wr) (fun _ i _ => n - (intOf i).toNat)
  case atStart => exact ⟨0, Nat.zero_le _, rfl, rfl, Below.refl _ _⟩
  case round =>
    obtain ⟨k, hk, rfl, rfl, hb⟩ := hrel
    by_cases hlt : k < n
    · obtain ⟨x, hx⟩ : ∃ x, L[k]? = some x := ⟨_, List.getElem?_eq_getElem (by rw [HL.out]; exact hlt)⟩
      obtain ⟨b, off, rfl, q0, q1, q2⟩ := (H.out.below hb).at hx
      have hnext : L.take (k + 1) = L.take k ++ [x] := by
        have hl := (List.getElem?_eq_some_iff.1 hx).1
        rw [List.take_succ_eq_append_getElem hl]
        rw [List.getElem?_eq_getElem hl] at hx
        cases hx
        rfl
      obtain ⟨a, b2, c2⟩ := x
      dsimp only at q0 q1 q2
      have hmx := HMx.out (mostL (L.take k)) c2
      have hsn := mostL_snoc (L.take k) (a, b2, c2)
      dsimp only at hsn
      rw [← hsn, ← hnext] at hmx
      obtain ⟨M, hM⟩ : ∃ M, mostL (L.take (k + 1)) = M := ⟨_, rfl⟩
      obtain ⟨M0, hM0⟩ : ∃ M, mostL (L.take k) = M := ⟨_, rfl⟩
      simp only [hM, hM0] at hmx
      have HM := Lib.hid hM
      have HB := Lib.hid (hb.alloc hb.size (.cells #[.int .i64 a, .int .i64 b2, .int .i64 c2] 60))
      simp only [hM0]
      clear hsn hnext hM hM0 hb hx
      go_wp2
      go_roundw
      case rel => exact ⟨k + 1, by omega, by go_num, by rw [HM.out], HB.out⟩
      case measure => simp [intOf]; omega
    · have hkl : L.take k = L := List.take_of_length_le (by rw [HL.out]; omega)
      rw [hkl]
      clear hkl
      go_wp2
      go_ret
      exact ⟨rfl, hb⟩
end Go.Proofs.Ytkibpialacnlhaa

/- The laws' rows of entries, as the document has them. -/
import Derived.Test.YtcgnedndfhkgiaaSpF
namespace Go.Proofs.Ytcgnedndfhkgiaa
open Go.RowKit
set_option linter.unusedVariables false
set_option linter.unusedSimpArgs false

theorem ent_info : (Try.prog.info? 37).map (fun i => (i.zero, i.size, i.bytes)) = some (some (.agg #[.int .i64 0, .int .i64 0, .int .i64 0]), 3, 24) := by kernel_rfl
theorem rent_info : (Try.prog.info? 46).map (fun i => (i.zero, i.size, i.bytes)) = some (some (.agg #[.int .i64 0, .int .i64 0, .int .i64 0]), 3, 24) := by kernel_rfl
/-- A row of entries of the call's own. -/
def GaveTr (L : List Ent) (w : World) (e : Ending) (w' : World) : Prop := ∃ A n c, e = .returned (.slice A n c) ∧ TRow w' w.heap.size A n c L ∧ Below w.heap.size w w'
theorem gave_tr {L : List Ent} {w w' : World} {A : Option Addr} {n c : Nat} (h : TRow w' w.heap.size A n c L) (hb : Below w.heap.size w w') : GaveTr L w (.returned (.slice A n c)) w' := ⟨A, n, c, rfl, h, hb⟩
theorem rows_any (w : World) (B : Nat) (A : Option Addr) (n c : Nat) (L : List Ent) (h : TRow w B A n c L) (hn : n ≤ 100) :
    Calls Try.prog 12 #[.slice A n c] w (GaveTr L w) := by
  have H := Lib.hid h
  have HL := Lib.hid h.len
  have hcap := h.cap_le
  clear h
  go_enter Try.func12, Try.ntmps12
  go_wp2
  go_loopw [3, 8] (fun v i wr => ∃ (k : Nat) (A' : Option Addr) (c' : Nat), k ≤ n ∧ i = .int .i64 (k : Int) ∧ v = .slice A' k c' ∧ wr.ownsRow w.heap.size 46 3 (.slice A' k c') k (trs (L.take k)) ∧ Below w.heap.size w wr) (fun _ i _ => n - (intOf i).toNat)
  case atStart => exact ⟨0, none, 0, Nat.zero_le _, rfl, rfl, World.ownsRow_nil _ _ _ _, Below.refl _ _⟩
  case round =>
    obtain ⟨k, A', c', hk, rfl, rfl, hown, hb⟩ := hrel
    have HO := Lib.hid hown
    have HB := Lib.hid hb
    clear hown hb
    by_cases hlt : k < n
    · obtain ⟨x, hx⟩ : ∃ x, L[k]? = some x := ⟨_, List.getElem?_eq_getElem (by rw [HL.out]; exact hlt)⟩
      obtain ⟨b, off, rfl, q0, q1, q2⟩ := (H.out.below HB.out).at hx
      have HT := Lib.hid (take_next hx)
      obtain ⟨x1, x2, x3⟩ := x
      dsimp only at q0 q1 q2
      have ewk := IntWalk.i64_in ((k : Int) + 1) (by omega)
      have hal := below_alloc wr (.cells #[.int .i64 x1, .int .i64 x2, .int .i64 x3] 37)
      have hal2 := hal.alloc hal.size (.cells #[.int .i64 x1, .int .i64 x2, .int .i64 x3] 46)
      have HB2 := Lib.hid (HB.out.trans (hal2.mono HB.out.size))
      have HO2 := Lib.hid (own_keep' HO.out hal2)
      have HN := Lib.hid (Holds.new (wr.alloc (.cells #[.int .i64 x1, .int .i64 x2, .int .i64 x3] 37)) 46 #[.int .i64 x1, .int .i64 x2, .int .i64 x3])
      have hsz := size_alloc wr (.cells #[.int .i64 x1, .int .i64 x2, .int .i64 x3] 37)
      rw [hsz] at HN
      clear hx hal hal2 hsz
      go_wp2_with (at_builtin; refine wpList_push_ent rfl (.tmp 12) (.tmp 14) _ rfl w.heap.size 46 Try.underlying29 rent_info A' k c' (L.take k) rfl HO2.out (wr.heap.size + 1) _ (x1, x2, x3) rfl HN.out (by omega) HB2.out.size ?_; intro A3 c3 w3 ho3 hb3; have HO3 := Lib.hid ho3; have HB3 := Lib.hid (HB2.out.trans hb3); clear ho3 hb3)
      go_roundw
      case rel => exact ⟨k + 1, A3, c3, by omega, by go_num, rfl, by rw [HT.out]; exact HO3.out, HB3.out⟩
      case measure => simp [intOf]; omega
    · have htk : L.take k = L := List.take_of_length_le (by rw [HL.out]; omega)
      rw [htk] at HO
      have l1 : ¬ (k : Int) < n := by omega
      clear htk
      go_wp2
      go_ret
      exact gave_tr (TRow.of_own HO.out) HB.out
end Go.Proofs.Ytcgnedndfhkgiaa

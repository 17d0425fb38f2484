/- The laws' first call; what a law's rows have in common. -/
import Derived.Test.YtcbfpejlbbgdjaaRgD
namespace Go.Proofs.Ytcbfpejlbbgdjaa
open Go.RowKit
set_option linter.unusedVariables false
set_option linter.unusedSimpArgs false

theorem part_old {w : World} {B g b room : Nat} {L : List Int} (h : RI.Rg w B g b room L) : ∀ k, RI.part g b k → B ≤ k := fun k hk => by
  have := h.old
  rcases hk with rfl | rfl
  · exact this.1
  · exact this.2.1
theorem rg_below {w0 w w' : World} {B g b room : Nat} {L : List Int} (h : RI.Rg w B g b room L) (hb : Below w0.heap.size w0 w) (hc : Chg (RI.part g b) w w') (hB : w0.heap.size ≤ B) : Below w0.heap.size w0 w' :=
  Below.chg hb hc hb.size (fun k hk => Nat.le_trans hB (part_old h k hk))
theorem ring_apart {w : World} {b n : Nat} {e : TypeId} {v : Value} {xs : List Value} (h : w.ownsRow (b + 2) e 1 v n xs) : ∀ q, v.ownBlock = some q → ¬ RI.part (b + 1) b q := fun q hq hp => by
  have := (h.lt q hq).1
  rcases hp with rfl | rfl <;> omega
theorem one_at (w : World) (x : Int) : ∀ j u, [Value.int .i64 x][j]? = some u → (w.alloc (.cells #[.int .i64 x] 3)).cell? ((⟨w.heap.size, 0, none⟩ : Addr).add j) = some u := fun j u hj => by
  match j, hj with
  | 0, hj =>
    simp only [List.getElem?_cons_zero, Option.some.injEq] at hj
    subst hj
    exact (Holds.new w 3 #[.int .i64 x]).cell 0
set_option maxHeartbeats 1000000 in
theorem alive_yes (w : World) : Calls Try.prog 7 #[] w fun e w' => e = .returned (.bool true) ∧ Below w.heap.size w w' := by
  have hnew := RI.new_any w 2 (by omega) (by omega)
  go_enter Try.func7, Try.ntmps7
  go_wp2_with (first
    | (go_at_call 8; refine hnew.mono ?_; rintro e w1 ⟨rfl, h1, hb1, -⟩; have H1 := Lib.hid h1; have HB1 := Lib.hid hb1; clear h1 hb1)
    | (go_at_call 12; refine (RI.len_any _ _ _ _ _ _ H6.out).mono ?_; rintro e w7 ⟨rfl, rfl⟩)
    | (go_at_call 11; refine (RI.push_any _ _ _ _ _ _ 3 H5.out (by simp)).mono ?_; rintro e w6 ⟨rfl, h6, hc6⟩; have HB6 := Lib.hid (rg_below H5.out HB5.out hc6 (Nat.le_refl _)); have H6 := Lib.hid h6; clear h6 hc6)
    | (go_at_call 10; refine (RI.pop_any _ _ _ _ _ _ _ H4.out).mono ?_; rintro e w5 ⟨rfl, h5, hc5⟩; have HB5 := Lib.hid (rg_below H4.out HB4.out hc5 (Nat.le_refl _)); have H5 := Lib.hid h5; clear h5 hc5)
    | (go_at_call 11; refine (RI.push_full _ _ _ _ _ _ 3 H3.out rfl).mono ?_; rintro e w4 ⟨rfl, hb4⟩; have HB4 := Lib.hid (HB3.out.trans (hb4.mono HB3.out.size)); have H4 := Lib.hid (H3.out.below hb4); clear hb4)
    | (go_at_call 11; refine (RI.push_any _ _ _ _ _ _ 2 H2.out (by simp)).mono ?_; rintro e w3 ⟨rfl, h3, hc3⟩; have HB3 := Lib.hid (rg_below H2.out HB2.out hc3 (Nat.le_refl _)); have H3 := Lib.hid h3; clear h3 hc3)
    | (go_at_call 11; refine (RI.push_any _ _ _ _ _ _ 1 H1.out (by simp)).mono ?_; rintro e w2 ⟨rfl, h2, hc2⟩; have HB2 := Lib.hid (rg_below H1.out HB1.out hc2 (Nat.le_refl _)); have H2 := Lib.hid h2; clear h2 hc2))
  go_ret
  exact ⟨rfl, HB6.out⟩
end Go.Proofs.Ytcbfpejlbbgdjaa

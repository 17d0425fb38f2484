/- Package civil: what the document's examples tell; the tables that the row lists. -/
import Derived.Test.YtfidmbpbgjgaiaaDoorCvW
import Derived.Test.YtfidmbpbgjgaiaaDoorCvX
import Derived.Test.YtfidmbpbgjgaiaaDoorRows
import Derived.ProofKit
import Derived.LaidMore
import Derived.OpenShut
import Derived.Stop.Joined
import Derived.Lib.LaidTab
import Derived.Stop.LaidErr
namespace Go.Proofs.YtfidmbpbgjgaiaaDoor
open Go.ChangeShapes Go.WideShapes Go.ChangeAt Go.WideElems Go.RowKit
set_option linter.unusedSimpArgs false
set_option linter.unusedVariables false

def laidTab : List (String × DataW Unit) := [("math/bits.deBruijn32tab", Rows.laid_math_bits_deBruijn32tab), ("math/bits.deBruijn64tab", Rows.laid_math_bits_deBruijn64tab), ("internal/strconv.uint64pow10", Rows.laid_internal_strconv_uint64pow10)]
theorem pow_is {H : Type} : (Rows.laid_internal_strconv_uint64pow10 : DataW H) = Lib.tabData .u64 Lib.pow10Tab := rfl
theorem door_met (os : Os) (args : Array Value) : laidMetH Tryd.prog laidTab ((World.doorLaid Tryd.prog 14 os).forCall (fun _ _ => 0) ⟨#[], args, []⟩).memory :=
  laidMetH_of_parts3 (fuel := 8) (laidMet_of_run' 8 (by kernel_rfl) (by kernel_rfl)) (by kernel_rfl) (by kernel_rfl)
theorem tPow : (Tryd.prog.globals[0]?).map (·.type) = some 81 := by kernel_rfl
theorem tab_of_laid {W : World} (h : laidMetH Tryd.prog laidTab W) : Tab W := by
  rw [MakeChecks.laidMetH_plain _ _ _ (by kernel_rfl)] at h
  have h2 := laidMet.tail (laidMet.tail h)
  rw [pow_is] at h2
  exact Lib.tabIs_of_head gPow tPow Tryd.underlying81 Tryd.underlying68 (by kernel_rfl) (by kernel_rfl) h2

def s2000 : ByteArray := ⟨#[50, 48, 48, 48, 45, 48, 50, 45, 50, 57]⟩
def s1900 : ByteArray := ⟨#[49, 57, 48, 48, 45, 48, 50, 45, 50, 57]⟩
theorem can_1972 : CanD 1972 1 1 := ⟨by decide, by decide, by decide, by decide, by decide, by decide⟩
theorem num_1972 : numV 1972 1 1 = 730 := by decide
theorem can_2000 : CanD 2000 2 29 := ⟨by decide, by decide, by decide, by decide, by decide, by decide⟩
theorem text_2000 : textB 2000 2 29 = s2000 := by
  refine ByteArray.ext (Array.toList_inj.1 ?_)
  rw [text_list]
  decide
theorem is_2000 : IsDate s2000 2000 2 29 := by
  rw [← text_2000]
  exact text_is can_2000
theorem no_1900 : ¬ ∃ y m d, IsDate s1900 y m d := by
  rintro ⟨y, m, d, h⟩
  have hy : y = 1900 := h.y_eq.trans (by decide)
  have hm : m = 2 := h.m_eq.trans (by decide)
  have hd : d = 29 := h.d_eq.trans (by decide)
  subst hy
  subst hm
  subst hd
  have := h.can.d2
  revert this
  decide
theorem alive_yes (w : World) (hT : Tab w) : Calls Tryd.prog 8 #[] w fun e w' => e = .returned (.bool true) ∧ Below w.heap.size w w' := by
  have h730 := num_1972
  have hp1 := fun W => parse_yes s2000 2000 2 29 W is_2000
  have hp2 := fun W => parse_no s1900 W (by unfold maxLen; decide) no_1900
  have htx := text_2000
  have hbb : (s2000.toList == s2000.toList) = true := beq_self_eq_true _
  have HT := Lib.hid hT
  unfold s2000 at hp1 htx hbb
  unfold s1900 at hp2
  have HTX := Lib.hid htx
  clear htx hT
  go_enter Tryd.func8, Tryd.ntmps8
  go_wp2_with (first
    | (go_at_call 10; refine (number_yes 1972 1 1 _ can_1972).mono ?_; rintro e w1 ⟨rfl, hb1⟩; rw [h730])
    | (go_at_call 16; with_reducible refine (hp1 _).mono ?_; rintro e w2 ⟨rfl, hb2⟩; have HA := Lib.hid (Box.start w2 23 #[.int .i64 2000, .int .i64 2, .int .i64 29]); have HB2 := Lib.hid (hb1.trans (hb2.mono hb1.size)))
    | (go_at_call 16; with_reducible refine (hp2 _).mono ?_; rintro e w3 ⟨rfl, hb3⟩; have HA3 := Lib.hid ((HA.out.next hb3).alloc (.cells #[.int .i64 0, .int .i64 0, .int .i64 0] 23)); obtain ⟨c0, c1, c2, _⟩ := HA3.out.cells3; have HW3 := Lib.hid (HB2.out.trans (HA3.out.below.mono HB2.out.size)); clear hb3)
    | (go_at_call 12; refine (text_yes 2000 2 29 _ can_2000 (HT.out.below HW3.out)).mono ?_; rintro e w4 ⟨rfl, hb4⟩; rw [HTX.out]))
  go_ret
  exact ⟨rfl, HW3.out.trans (hb4.mono HW3.out.size)⟩
end Go.Proofs.YtfidmbpbgjgaiaaDoor

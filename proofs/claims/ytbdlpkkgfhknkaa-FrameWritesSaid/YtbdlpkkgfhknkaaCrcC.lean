/- What Sum, Seal and Open answer. -/
import Derived.Test.YtbdlpkkgfhknkaaCrcB
import Derived.Test.YtbdlpkkgfhknkaaIntRows
import Derived.Great.BuildSlice
import Derived.Deep.QuietTactic
import Derived.BigQuiet
namespace Go.Proofs.Ytbdlpkkgfhknkaa
open Go.RowKit

def sumOf (zs : List Int) : BitVec 16 := goes 65535#16 zs
theorem sum_any (A : Option Addr) (n c : Nat) (zs : List Int) (w : World) (hr : Bytes w A n c zs) :
    Calls Try.prog 38 #[.slice A n c] w fun e w' => e = .returned (.int .u16 ((sumOf zs).toNat : Int)) ∧ w = w' := by
  have h := goes_any 65535#16 A n c zs w hr
  go_enter Try.func38, Try.ntmps38
  go_wp2_with (go_at_call 42; refine h.mono ?_; rintro e w' ⟨rfl, rfl⟩)
  go_ret
  exact ⟨rfl, rfl⟩
theorem rsum_any (A : Option Addr) (n c : Nat) (zs : List Int) (w : World) (hr : Bytes w A n c zs) :
    Calls Try.prog 19 #[.slice A n c] w fun e w' => e = .returned (.int .u16 ((sumOf zs).toNat : Int)) ∧ w = w' := by
  have h := rgoes_any 65535#16 A n c zs w hr
  go_enter Try.func19, Try.ntmps19
  go_wp2_with (go_at_call 36; refine h.mono ?_; rintro e w' ⟨rfl, rfl⟩)
  go_ret
  exact ⟨rfl, rfl⟩
theorem crc_info : (Try.prog.info? 5).map (fun i => (i.zero, i.size, i.bytes)) = some (some (.int .u8 0), 1, 1) := by kernel_rfl
/-- Bytes, and their sum behind them. -/
def sealed (zs : List Int) : List Int := zs ++ [((sumOf zs).toNat : Int) / 256, ((sumOf zs).toNat : Int) % 256]
theorem sealed_wf {zs : List Int} (h : ∀ n ∈ zs, (Lit.int .u8 n).wf = true) : ∀ n ∈ sealed zs, (Lit.int .u8 n).wf = true := by
  have hs := (sumOf zs).isLt
  intro n hn
  rcases List.mem_append.1 hn with hn | hn
  · exact h n hn
  · simp only [List.mem_cons, List.not_mem_nil, or_false] at hn
    rcases hn with rfl | rfl
    · exact WalkArith.wf_u8 (by omega)
    · exact WalkArith.wf_u8 (by omega)
theorem sealed_map (zs : List Int) : (sealed zs).map (Value.int .u8) = zs.map (.int .u8) ++ [((sumOf zs).toNat : Int) / 256, ((sumOf zs).toNat : Int) % 256].map (.int .u8) := by simp [sealed]
theorem seal_any (A : Option Addr) (n c : Nat) (zs : List Int) (w : World) (hr : Bytes w A n c zs) (hn : n ≤ 65536) :
    Calls Try.prog 24 #[.slice A n c] w (GaveRow 5 .u8 w (n + 2) (sealed zs)) := by
  obtain ⟨i0, hi, hz0, hz1, hz2⟩ := info_parts crc_info
  have hs := (sumOf zs).isLt
  have HM := Lib.hid (sealed_map zs)
  obtain ⟨S, hS⟩ : ∃ S : Int, ((sumOf zs).toNat : Int) = S := ⟨_, rfl⟩
  have s1 : 0 ≤ S := by omega
  have s2 : S ≤ 65535 := by omega
  have hsum := sum_any A n c zs w hr
  rw [hS] at hsum HM
  have HR := Lib.hid hr
  have H2 := Lib.hid hz2
  have H1 := Lib.hid hz1
  have H0 := Lib.hid hz0
  have HW : ∀ n ∈ [S / 256, S % 256], (Lit.int .u8 n).wf = true := by
    intro n hn
    simp only [List.mem_cons, List.not_mem_nil, or_false] at hn
    rcases hn with rfl | rfl
    · exact WalkArith.wf_u8 (by omega)
    · exact WalkArith.wf_u8 (by omega)
  have HV := Lib.hid HW
  clear hr hS hs hz0 hz1 hz2 HW
  go_enter Try.func24, Try.ntmps24
  go_wp2_with (first
    | (go_at_call 38; refine hsum.mono ?_; rintro e w' ⟨rfl, rfl⟩)
    | (at_make; refine wpList_make_own _ rfl _ _ 29 rfl w.heap.size 5 i0 (.int .u8 0) 1 Try.underlying29 hi H0.out H1.out .i64 .i64 _ (n + 2) rfl rfl (by omega) (by rw [H2.out]; omega) (by unfold maxLen; omega) (Nat.le_refl _) ?_; intro w1 hown1 hgrow1; have hb1 : Below w.heap.size w w1 := (Below.refl _ _).grown hgrow1 (Nat.le_refl _) (by simp))
    | (at_builtin; refine wpList_append_row _ rfl (.tmp 11) (.tmp 12) _ rfl w.heap.size 5 i0 _ 1 Try.underlying29 hi H0.out H1.out H2.out rfl _ 0 [] rfl hown1 .u8 A n c zs rfl (HR.out.below hb1) (by unfold maxLen; omega) (by omega) hb1.size ?_; intro A2 c2 w2 hown2 hb2; simp only [Nat.zero_add, List.nil_append] at hown2)
    | (at_builtin; refine wpList_append_row _ rfl (.tmp 14) (.tmp 20) _ rfl w.heap.size 5 i0 _ 1 Try.underlying29 hi H0.out H1.out H2.out rfl _ n _ rfl (hown2.alloc _) .u8 _ 2 2 [S / 256, S % 256] rfl (IntRow.laid w2 _ _ _ 2 rfl (by simp [maxLen]) HV.out) (by unfold maxLen; omega) (by omega) (by have := hb1.size; have := hb2.size; simp; omega) ?_; intro A3 c3 w3 hown3 hb3))
  go_ret
  rw [← HM.out] at hown3
  exact gave hown3 (((hb1.trans hb2).alloc (by have := hb1.size; have := hb2.size; omega) _).trans hb3)
end Go.Proofs.Ytbdlpkkgfhknkaa

/- The laws' first call. -/
import Derived.Test.YtjifnnloncanpaaEvT
namespace Go.Proofs.Ytjifnnloncanpaa
open Go.RowKit
set_option linter.unusedVariables false
set_option linter.unusedSimpArgs false

def doorS : ByteArray := ⟨#[100, 111, 111, 114]⟩
def doorC : ByteArray := ⟨#[68, 111, 111, 114]⟩
def evD : Ev := ⟨1, doorS, 5, 7, 0, 0, 0, 0⟩
theorem door_good : goodL doorS = true := by decide +kernel
theorem door_bad : goodL doorC = false := by decide +kernel
theorem take_one (w : World) (B l g b : Nat) (x : Ev) (M : List Ev) (last : Int) (h : Lg w B l g b (x :: M) last) :
    Calls Try.prog 10 #[.pointer (some ⟨l, 0, none⟩)] w fun e w' => e = .returned (.tuple #[(.agg #[.int .i64 x.id, .string x.lab, .int .i64 x.loc, .int .i64 x.time, .int .i64 x.hops, .int .i64 x.root, .int .u16 x.boot, .int .i64 x.way]), .bool true]) ∧ Lg w' B l g b M last ∧ Chg (lpart l g b) w w' := (take_any w B l g b _ last h).mono fun e w' hp => by
  rcases hp with ⟨h1, _⟩ | ⟨y, N, h1, h2⟩
  · cases h1
  · cases h1
    exact h2
theorem lg_below {w0 w w' : World} {B l g b : Nat} {L : List Ev} {last : Int} (h : Lg w B l g b L last) (hb : Below w0.heap.size w0 w) (hc : Chg (lpart l g b) w w') (hB : w0.heap.size ≤ B) : Below w0.heap.size w0 w' :=
  Below.chg hb hc hb.size (fun k hk => Nat.le_trans hB (h.part_old k hk))
theorem alive_tag (w : World) (B l g b : Nat) (h : Lg w B l g b [] 0) :
    Calls Try.prog 9 #[.pointer (some ⟨l, 0, none⟩), .string ⟨#[100, 111, 111, 114]⟩, .int .i64 5, (.agg #[.int .i64 7, .int .i64 0, .int .i64 0, .int .u16 0, .int .i64 0])] w (Tagged B l g b [] evD w) := (tag_ways evD w B l g b [] 0 h door_good (by omega) (by omega) rfl).mono fun e w' hp => by
  rcases hp with ⟨h1, _⟩ | ⟨_, h2⟩
  · cases h1
  · exact h2
theorem alive_not (w : World) (l : Nat) :
    Calls Try.prog 9 #[.pointer (some ⟨l, 0, none⟩), .string ⟨#[68, 111, 111, 114]⟩, .int .i64 5, (.agg #[.int .i64 7, .int .i64 0, .int .i64 0, .int .u16 0, .int .i64 0])] w fun e w' => e = .returned (.tuple #[.int .i64 0, .int .i64 1]) ∧ Below w.heap.size w w' := tag_bad ⟨0, doorC, 5, 7, 0, 0, 0, 0⟩ w l door_bad
theorem alive_take (w : World) (B l g b : Nat) (h : Lg w B l g b [evD] 1) :
    Calls Try.prog 10 #[.pointer (some ⟨l, 0, none⟩)] w fun e w' => e = .returned (.tuple #[(.agg #[.int .i64 1, .string ⟨#[100, 111, 111, 114]⟩, .int .i64 5, .int .i64 7, .int .i64 0, .int .i64 0, .int .u16 0, .int .i64 0]), .bool true]) ∧ Lg w' B l g b [] 1 ∧ Chg (lpart l g b) w w' := take_one w B l g b evD [] 1 h
set_option maxHeartbeats 2000000 in
theorem alive_yes (w : World) : Calls Try.prog 6 #[] w fun e w' => e = .returned (.bool true) ∧ Below w.heap.size w w' := by
  have hnew := lnew_any w
  have hdd : (ByteArray.toList ⟨#[100, 111, 111, 114]⟩ == [100, 111, 111, 114]) = true := by decide +kernel
  go_enter Try.func6, Try.ntmps6
  go_wp2_with (first
    | (go_at_call 7; refine hnew.mono ?_; rintro e w1 ⟨rfl, h1, hb1, -⟩; have H1 := Lib.hid h1; have HB1 := Lib.hid hb1; clear h1 hb1)
    | (go_at_call 9; (with_reducible refine (alive_tag _ _ _ _ _ H1.out).mono ?_); rintro e w2 ⟨rfl, h2, hc2⟩; have HB2 := Lib.hid (lg_below H1.out HB1.out hc2 (Nat.le_refl _)); have H2 := Lib.hid h2; clear h2 hc2)
    | (go_at_call 9; (with_reducible refine (alive_not _ _).mono ?_); rintro e w3 ⟨rfl, hb3⟩; have HB3 := Lib.hid (HB2.out.trans (hb3.mono HB2.out.size)); have H3 := Lib.hid (H2.out.below hb3); clear hb3)
    | (go_at_call 10; refine (alive_take _ _ _ _ _ H3.out).mono ?_; rintro e w4 ⟨rfl, h4, hc4⟩; have HB4 := Lib.hid (lg_below H3.out HB3.out hc4 (Nat.le_refl _)); clear h4 hc4))

  go_ret
  exact ⟨rfl, HB4.out.alloc HB4.out.size _⟩
end Go.Proofs.Ytjifnnloncanpaa

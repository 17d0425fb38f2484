/- Package leap: Make. -/
import Derived.Test.YtcknllkbeadmlaaDoorLpD
import Derived.Test.YtcknllkbeadmlaaDoorLpI
namespace Go.Proofs.YtcknllkbeadmlaaDoor
open Go.RowKit
set_option linter.unusedVariables false
set_option linter.unusedSimpArgs false

/-- Can such a table be, but for its leaps? -/
structure FineR (st ah en : Int) : Prop where
  s1 : -719162 ≤ st
  s2 : st ≤ 2932896
  e1 : -719162 ≤ en
  e2 : en ≤ 2932896
  lt : st < en
  a1 : 0 ≤ ah
  a2 : ah ≤ 99
/-- Do leaps' days rise strictly, from start on, below end? -/
def OrdL (st en : Int) (L : List (Int × Int)) : Prop := (∀ e ∈ L, st ≤ e.1 ∧ e.1 < en) ∧ L.Pairwise fun a b => a.1 < b.1
open Classical in
/-- The error's number of a table. -/
noncomputable def faultT (st ah en : Int) (L : List (Int × Int)) : Int := if ¬ FineR st ah en then 1 else if ¬ Ones L then 1 else if 64 < L.length then 6 else if ¬ OrdL st en L then 12 else 0
theorem ord_nil (st en : Int) : OrdL st en [] := ⟨by simp, .nil⟩
theorem ord_pre {st en : Int} {L M : List (Int × Int)} (h : OrdL st en L) (hp : M <+: L) : OrdL st en M := ⟨fun e he => h.1 e (hp.subset he), h.2.sublist hp.sublist⟩
theorem takes_iff {st en : Int} {M : List (Int × Int)} (h : OrdL st en M) (d : Int) : takesB st M d = true ↔ st ≤ d ∧ ∀ e ∈ M, e.1 < d := by
  rcases List.eq_nil_or_concat M with rfl | ⟨N, x, hM⟩
  · rw [takes_nil, decide_eq_true_iff]
    simp
  · rw [List.concat_eq_append] at hM
    subst hM
    rw [takes_snoc, decide_eq_true_iff]
    have hx := h.1 x (by simp)
    constructor
    · intro hd
      refine ⟨by omega, fun e he => ?_⟩
      rcases List.mem_append.1 he with h1 | h1
      · have := (List.pairwise_append.1 h.2).2.2 e h1 x (by simp)
        omega
      · simp only [List.mem_singleton] at h1
        subst h1
        exact hd
    · intro hd
      exact hd.2 x (by simp)
theorem ord_snoc {st en : Int} {M : List (Int × Int)} (h : OrdL st en M) (d s : Int) : OrdL st en (M ++ [(d, s)]) ↔ takesB st M d = true ∧ d < en := by
  rw [takes_iff h]
  constructor
  · intro k
    have := k.1 (d, s) (by simp)
    exact ⟨⟨this.1, fun e he => (List.pairwise_append.1 k.2).2.2 e he (d, s) (by simp)⟩, this.2⟩
  · rintro ⟨⟨k1, k2⟩, k3⟩
    refine ⟨fun e he => ?_, List.pairwise_append.2 ⟨h.2, List.pairwise_singleton .., fun a ha b hb => ?_⟩⟩
    · rcases List.mem_append.1 he with h1 | h1
      · exact h.1 e h1
      · simp only [List.mem_singleton] at h1
        subst h1
        exact ⟨k1, k3⟩
    · simp only [List.mem_singleton] at hb
      subst hb
      exact k2 a ha
theorem isday_any (n : Int) (w : World) : Calls Tryd.prog 47 #[.int .i64 n] w fun e w' => e = .returned (.bool (decide (-719162 ≤ n ∧ n ≤ 2932896))) ∧ w' = w := by
  by_cases h1 : -719162 ≤ n
  · have d1 : decide (-719162 ≤ n) = true := decide_eq_true h1
    by_cases h2 : n ≤ 2932896
    · have d2 : decide (n ≤ 2932896) = true := decide_eq_true h2
      rw [decide_eq_true (And.intro h1 h2)]
      go_enter Tryd.func47, Tryd.ntmps47
      go_wp2
      go_ret
      exact ⟨rfl, rfl⟩
    · have d2 : decide (n ≤ 2932896) = false := decide_eq_false h2
      rw [decide_eq_false (fun h => h2 h.2)]
      go_enter Tryd.func47, Tryd.ntmps47
      go_wp2
      go_ret
      exact ⟨rfl, rfl⟩
  · have d1 : decide (-719162 ≤ n) = false := decide_eq_false h1
    rw [decide_eq_false (fun h => h1 h.1)]
    go_enter Tryd.func47, Tryd.ntmps47
    go_wp2
    go_ret
    exact ⟨rfl, rfl⟩
/-- Is a Step none that may be? -/
def badB (y : Int) : Bool := y != 1 && y != -1
theorem bad_iff {y : Int} : badB y = true ↔ ¬ (y = 1 ∨ y = -1) := by
  unfold badB
  by_cases h1 : y = 1
  · simp [h1]
  · by_cases h2 : y = -1
    · simp [h2]
    · simp [h1, h2]
theorem make1_any (x y : Int) (w : World) : Calls Tryd.prog 49 #[.agg #[.int .i64 x, .int .i64 y]] w fun e w' => e = .returned (.bool (badB y)) ∧ Below w.heap.size w w' := by
  have HB := Lib.hid (Box.start w 63 #[.int .i64 x, .int .i64 y])
  have c1 := HB.out.holds.cell 1
  cases h1 : (y != 1) with
  | false =>
    have HV := Lib.hid (show badB y = false by unfold badB; rw [h1]; rfl)
    go_enter Tryd.func49, Tryd.ntmps49
    go_wp2
    go_ret
    exact ⟨ret_bool HV.out.symm, HB.out.below⟩
  | true =>
    have HV := Lib.hid (show badB y = (y != -1) by unfold badB; rw [h1]; rfl)
    go_enter Tryd.func49, Tryd.ntmps49
    go_wp2
    go_ret
    exact ⟨ret_bool HV.out.symm, HB.out.below⟩
theorem index_any' (w : World) (A : Option Addr) (n c : Nat) (L : List (Int × Int)) (h : PRow w A n c L) :
    Calls Tryd.prog 61 #[.slice A n c, .func (.func 49) #[] #[]] w fun e w' => ((Ones L ∧ e = .returned (.int .i64 (-1))) ∨ (¬ Ones L ∧ ∃ k : Nat, e = .returned (.int .i64 (k : Int)))) ∧ Below w.heap.size w w' := by
  have H := Lib.hid h
  have hn := h.len
  have hcap := h.cap_le
  have hmax := h.max
  unfold maxLen at hmax
  clear h
  go_enter Tryd.func61, Tryd.ntmps61
  go_wp2
  go_loopw [8] (fun i wr => ∃ k : Nat, k ≤ n ∧ i = .int .i64 (k : Int) ∧ Ones (L.take k) ∧ Below w.heap.size w wr) (fun i _ => n - (intOf i).toNat)
  case atStart => exact ⟨0, Nat.zero_le _, rfl, by simp [Ones], Below.refl _ _⟩
  case round =>
    obtain ⟨k, hk, rfl, ho, hb⟩ := hrel
    have HO := Lib.hid ho
    by_cases hlt : k < n
    · obtain ⟨e, he⟩ : ∃ x, L[k]? = some x := ⟨_, List.getElem?_eq_getElem (by omega)⟩
      obtain ⟨x, y⟩ := e
      obtain ⟨b, off, rfl, hbl, q0, q1⟩ := (H.out.below hb).at he
      have HE := Lib.hid he
      have hltI : (k : Int) < (n : Int) := by omega
      have ew := IntWalk.i64_in ((k : Int) + 1) (by omega)
      have HM := Lib.hid (make1_any x y wr)
      have HB := Lib.hid hb
      clear he ho hb
      cases hy : badB y with
      | true =>
        have HN := Lib.hid (show ¬ Ones L from fun h => bad_iff.1 hy (h (x, y) (List.mem_of_getElem? HE.out)))
        rw [hy] at HM
        clear hy
        go_wp2_with (go_at_call 49; refine HM.out.mono ?_; rintro e w1 ⟨rfl, hb1⟩)
        go_ret
        exact ⟨.inr ⟨HN.out, k, rfl⟩, HB.out.trans (hb1.mono HB.out.size)⟩
      | false =>
        have HN := Lib.hid (show Ones (L.take (k + 1)) from fun e he => by
          obtain ⟨hk', e'⟩ := List.getElem?_eq_some_iff.1 HE.out
          rw [List.take_succ_eq_append_getElem hk', e'] at he
          rcases List.mem_append.1 he with h | h
          · exact HO.out e h
          · simp only [List.mem_singleton] at h
            subst h
            exact Classical.byContradiction fun hn => by
              have := bad_iff.2 hn
              rw [hy] at this
              cases this)
        rw [hy] at HM
        clear hy
        go_wp2_with (go_at_call 49; refine HM.out.mono ?_; rintro e w1 ⟨rfl, hb1⟩)
        go_roundw
        case rel => exact ⟨k + 1, by omega, by go_num, HN.out, HB.out.trans (hb1.mono HB.out.size)⟩
        case measure => simp [intOf]; omega
    · have HN := Lib.hid (show Ones L by have := HO.out; rwa [List.take_of_length_le (by omega)] at this)
      have HB := Lib.hid hb
      have hltI : decide ((k : Int) < (n : Int)) = false := decide_eq_false (by omega)
      clear ho hb
      go_wp2
      go_ret
      exact ⟨.inl ⟨HN.out, rfl⟩, HB.out⟩
theorem contains_any (w : World) (A : Option Addr) (n c : Nat) (L : List (Int × Int)) (h : PRow w A n c L) :
    Calls Tryd.prog 48 #[.slice A n c, .func (.func 49) #[] #[]] w fun e w' => ((Ones L ∧ e = .returned (.bool false)) ∨ (¬ Ones L ∧ e = .returned (.bool true))) ∧ Below w.heap.size w w' := by
  have HI := Lib.hid (index_any' w A n c L h)
  clear h
  by_cases ho : Ones L
  · go_enter Tryd.func48, Tryd.ntmps48
    go_wp2_with (go_at_call 61; refine HI.out.mono ?_; intro e w1 hp; obtain ⟨rfl, hb⟩ : e = .returned (.int .i64 (-1)) ∧ Below w.heap.size w w1 := ⟨hp.1.elim (fun h => h.2) (fun h => absurd ho h.1), hp.2⟩; clear hp)
    go_ret
    exact ⟨.inl ⟨ho, rfl⟩, hb⟩
  · go_enter Tryd.func48, Tryd.ntmps48
    go_wp2_with (go_at_call 61; refine HI.out.mono ?_; intro e w1 hp; obtain ⟨⟨k, rfl⟩, hb⟩ : (∃ k : Nat, e = .returned (.int .i64 (k : Int))) ∧ Below w.heap.size w w1 := ⟨hp.1.elim (fun h => absurd h.1 ho) (fun h => h.2), hp.2⟩; have hd : decide (0 ≤ (k : Int)) = true := decide_eq_true (Int.natCast_nonneg k); clear hp)
    go_ret
    exact ⟨.inr ⟨ho, rfl⟩, hb⟩
end Go.Proofs.YtcknllkbeadmlaaDoor

/- Package utc: what the laws meet: seconds as structs compared; Of and Tai where the day is known. -/
import Derived.Test.YtcknllkbeadmlaaDoorUtP
import Derived.Test.YtcknllkbeadmlaaDoorUtH
import Derived.Laws.StructEq
namespace Go.Proofs.YtcknllkbeadmlaaDoor
open Go.RowKit
set_option linter.unusedVariables false
set_option linter.unusedSimpArgs false

section
variable (y m d H M S y' m' d' H' M' S' : Int) (W : World)
theorem utc_eq_same : (binOp .eql 35 (.agg #[.int .i64 y, .int .i64 m, .int .i64 d, .int .i64 H, .int .i64 M, .int .i64 S]) (.agg #[.int .i64 y, .int .i64 m, .int .i64 d, .int .i64 H, .int .i64 M, .int .i64 S])).run Tryd.prog W = .ok (.bool true) W := by
  go_simp
theorem utc_neq_same : (binOp .neq 35 (.agg #[.int .i64 y, .int .i64 m, .int .i64 d, .int .i64 H, .int .i64 M, .int .i64 S]) (.agg #[.int .i64 y, .int .i64 m, .int .i64 d, .int .i64 H, .int .i64 M, .int .i64 S])).run Tryd.prog W = .ok (.bool false) W := by
  go_simp
theorem rutc_eq_same : (binOp .eql 28 (.agg #[.int .i64 y, .int .i64 m, .int .i64 d, .int .i64 H, .int .i64 M, .int .i64 S]) (.agg #[.int .i64 y, .int .i64 m, .int .i64 d, .int .i64 H, .int .i64 M, .int .i64 S])).run Tryd.prog W = .ok (.bool true) W := by
  go_simp
theorem rutc_neq_same : (binOp .neq 28 (.agg #[.int .i64 y, .int .i64 m, .int .i64 d, .int .i64 H, .int .i64 M, .int .i64 S]) (.agg #[.int .i64 y, .int .i64 m, .int .i64 d, .int .i64 H, .int .i64 M, .int .i64 S])).run Tryd.prog W = .ok (.bool false) W := by
  go_simp
theorem utc_eq_other (h : ¬ ((y = y' ∧ m = m' ∧ d = d') ∧ (H = H' ∧ M = M' ∧ S = S'))) : (binOp .eql 35 (.agg #[.int .i64 y, .int .i64 m, .int .i64 d, .int .i64 H, .int .i64 M, .int .i64 S]) (.agg #[.int .i64 y', .int .i64 m', .int .i64 d', .int .i64 H', .int .i64 M', .int .i64 S'])).run Tryd.prog W = .ok (.bool false) W := by
  have H := Lib.hid h
  clear h
  go_simp
  intro h0 h1 h2 h3 h4 h5
  exact H.out ⟨⟨h0, h1, h2⟩, ⟨h3, h4, h5⟩⟩
end
section
variable {st ah en : Int} {L : List (Int × Int)}
theorem gtab_of (h : faultT st ah en L = 0) : GTab st ah en L := by
  obtain ⟨a, b, c, d⟩ := fault_few h
  exact ⟨a, b, c, d⟩
theorem taiR_mid {y m d D : Int} (g : GTab st ah en L) (hc : CanD y m d) (hn : numV y m d = D) (h1 : st ≤ D) (h2 : D < en) : taiR st ah en L y m d 0 0 0 = (beginV ah L D, 0) := by
  have hl := (g.len D).1
  rw [taiR_yes ⟨hc, ⟨by decide, by decide, by decide, by decide, by decide, by decide⟩⟩ (by rw [hn]; omega) (by rw [hn]; unfold secV; omega), hn]
  unfold secV
  rw [show beginV ah L D + (3600 * 0 + 60 * 0 + 0) = beginV ah L D by omega]
theorem of_num {y m d D : Int} (hc : CanD y m d) (hn : numV y m d = D) (w : World) :
    Calls Tryd.prog 25 #[.int .i64 D] w fun e w' => e = .returned (.tuple #[.agg #[.int .i64 y, .int .i64 m, .int .i64 d], .bool true]) ∧ Below w.heap.size w w' := by
  subst hn
  exact of_is hc w
theorem made_yes {w w' : World} {e : Ending} (h0 : faultT st ah en L = 0) (h : MadeB st ah en L w e w') : ∃ q, e = .returned (.tuple #[.pointer (some ⟨q, 0, none⟩), .bool true]) ∧ Rt w' w'.heap.size q ⟨st, ah, en, L⟩ ∧ Below w.heap.size w w' := by
  obtain ⟨h | h, hb⟩ := h
  · obtain ⟨_, q, he, hr⟩ := h
    exact ⟨q, he, hr, hb⟩
  · exact absurd h0 h.1
theorem made_no {w w' : World} {e : Ending} (h0 : ¬ faultT st ah en L = 0) (h : MadeB st ah en L w e w') : e = .returned (.tuple #[.pointer none, .bool false]) ∧ Below w.heap.size w w' := by
  obtain ⟨h | h, hb⟩ := h
  · exact absurd h.1 h0
  · exact ⟨h.2, hb⟩
/-- A second of UTC is the one that one of TAI is. -/
structure IsOf (st ah en : Int) (L : List (Int × Int)) (tai y m d H M S : Int) : Prop where
  day : OnDay st ah en L tai (numV y m d)
  can : CanD y m d
  time : CanT H M S
  sec : secV H M S = tai - beginV ah L (numV y m d)
theorem isOf_ex {tai D : Int} (g : GTab st ah en L) (h : OnDay st ah en L tai D) : ∃ y m d H M S, IsOf st ah en L tai y m d H M S := by
  obtain ⟨y, m, d, hc, hn⟩ := date_ex (n := D) (by have := h.lo; have := g.fine.s1; omega) (by have := h.hi; have := g.fine.e2; omega)
  subst hn
  have s := h.sec g
  exact ⟨y, m, d, _, _, _, h, hc, hms_can s.1 s.2.1, hms_sec s.1 s.2.1⟩
theorem of_hit {tai y m d H M S : Int} (g : GTab st ah en L) (h : IsOf st ah en L tai y m d H M S) (hf : Fits tai) (q : Nat) (W : World) (hr : Rt W W.heap.size q ⟨st, ah, en, L⟩) :
    Calls Tryd.prog 11 #[.pointer (some ⟨q, 0, none⟩), .int .i64 tai] W fun e w' => e = .returned (.tuple #[.agg #[.int .i64 y, .int .i64 m, .int .i64 d, .int .i64 H, .int .i64 M, .int .i64 S], .int .i64 0]) ∧ Below W.heap.size W w' := by
  refine (uof_any st ah en tai L q W g hr hf).mono ?_
  rintro e w' ⟨⟨D, y', m', d', ho, hc, hn, he⟩ | ⟨hn, _⟩, hb⟩
  · have hD := ho.one g h.day
    subst hD
    obtain ⟨rfl, rfl, rfl⟩ := num_same hc h.can hn
    obtain ⟨e1, e2, e3⟩ := sec_hms h.time
    rw [← h.sec, e1, e2, e3] at he
    exact ⟨he, hb⟩
  · exact absurd ⟨_, h.day⟩ hn
theorem of_miss {tai : Int} (g : GTab st ah en L) (h : ¬ ∃ D, OnDay st ah en L tai D) (hf : Fits tai) (q : Nat) (W : World) (hr : Rt W W.heap.size q ⟨st, ah, en, L⟩) :
    Calls Tryd.prog 11 #[.pointer (some ⟨q, 0, none⟩), .int .i64 tai] W fun e w' => e = .returned (.tuple #[.agg #[.int .i64 0, .int .i64 0, .int .i64 0, .int .i64 0, .int .i64 0, .int .i64 0], .int .i64 11]) ∧ Below W.heap.size W w' := by
  refine (uof_any st ah en tai L q W g hr hf).mono ?_
  rintro e w' ⟨⟨D, y', m', d', ho, _⟩ | ⟨_, he⟩, hb⟩
  · exact absurd ⟨_, ho⟩ h
  · exact ⟨he, hb⟩
theorem rof_hit {tai y m d H M S : Int} (g : GTab st ah en L) (h : IsOf st ah en L tai y m d H M S) (hf : Fits tai) (A : Option Addr) (n c : Nat) (W : World) (hr : PRow W A n c L) (hn : n ≤ 1000) :
    Calls Tryd.prog 14 #[.agg #[.int .i64 st, .int .i64 ah, .int .i64 en, .slice A n c], .int .i64 tai] W fun e w' => e = .returned (.tuple #[.agg #[.int .i64 y, .int .i64 m, .int .i64 d, .int .i64 H, .int .i64 M, .int .i64 S], .bool true]) ∧ Below W.heap.size W w' := by
  refine (ruof_any st ah en tai L A n c W g hr hn hf).mono ?_
  rintro e w' ⟨⟨D, y', m', d', ho, hc, hn, he⟩ | ⟨hn, _⟩, hb⟩
  · have hD := ho.one g h.day
    subst hD
    obtain ⟨rfl, rfl, rfl⟩ := num_same hc h.can hn
    obtain ⟨e1, e2, e3⟩ := sec_hms h.time
    rw [← h.sec, e1, e2, e3] at he
    exact ⟨he, hb⟩
  · exact absurd ⟨_, h.day⟩ hn
theorem rof_miss {tai : Int} (g : GTab st ah en L) (h : ¬ ∃ D, OnDay st ah en L tai D) (hf : Fits tai) (A : Option Addr) (n c : Nat) (W : World) (hr : PRow W A n c L) (hn : n ≤ 1000) :
    Calls Tryd.prog 14 #[.agg #[.int .i64 st, .int .i64 ah, .int .i64 en, .slice A n c], .int .i64 tai] W fun e w' => e = .returned (.tuple #[.agg #[.int .i64 0, .int .i64 0, .int .i64 0, .int .i64 0, .int .i64 0, .int .i64 0], .bool false]) ∧ Below W.heap.size W w' := by
  refine (ruof_any st ah en tai L A n c W g hr hn hf).mono ?_
  rintro e w' ⟨⟨D, y', m', d', ho, _⟩ | ⟨_, he⟩, hb⟩
  · exact absurd ⟨_, ho⟩ h
  · exact ⟨he, hb⟩
/-- From TAI to UTC and back. -/
theorem tai_of {tai y m d H M S : Int} (g : GTab st ah en L) (h : IsOf st ah en L tai y m d H M S) : taiR st ah en L y m d H M S = (tai, 0) := by
  have s := h.day.sec g
  have k := h.sec
  have lo := h.day.lo
  have hi := h.day.hi
  rw [taiR_yes ⟨h.can, h.time⟩ (by omega) (by omega), k]
  rw [show beginV ah L (numV y m d) + (tai - beginV ah L (numV y m d)) = tai by omega]
/-- From UTC to TAI and back. -/
theorem of_tai {n y m d H M S : Int} (g : GTab st ah en L) (h : taiR st ah en L y m d H M S = (n, 0)) : IsOf st ah en L n y m d H M S ∧ Fits n := by
  by_cases hc : CanD y m d ∧ CanT H M S
  case neg => rw [taiR_arg hc] at h; cases h
  by_cases hp : numV y m d < st ∨ en ≤ numV y m d
  · rw [taiR_past hc hp] at h
    cases h
  by_cases hl : lenV L (numV y m d) ≤ secV H M S
  · rw [taiR_none hc hp hl] at h
    cases h
  rw [taiR_yes hc hp hl] at h
  have e : beginV ah L (numV y m d) + secV H M S = n := (Prod.mk.inj h).1
  have sb := sec_bd' hc.2
  have bb := g.beg (numV y m d)
  have s1 := g.fine.s1
  have s2 := g.fine.e2
  exact ⟨⟨⟨by omega, by omega, by omega, by omega⟩, hc.1, hc.2, by omega⟩, by unfold Fits; omega⟩
theorem taiR_two (st ah en : Int) (L : List (Int × Int)) (y m d H M S : Int) : ∃ n e, taiR st ah en L y m d H M S = (n, e) ∧ (e = 0 ∨ (n = 0 ∧ ¬ e = 0)) := by
  unfold taiR
  split
  · exact ⟨_, _, rfl, .inr ⟨rfl, by decide⟩⟩
  · split
    · exact ⟨_, _, rfl, .inr ⟨rfl, by decide⟩⟩
    · split
      · exact ⟨_, _, rfl, .inr ⟨rfl, by decide⟩⟩
      · exact ⟨_, _, rfl, .inl rfl⟩
/-- A later second of TAI has the greater text. -/
theorem isOf_less {a b y m d H M S y' m' d' H' M' S' : Int} (g : GTab st ah en L) (h : IsOf st ah en L a y m d H M S) (h' : IsOf st ah en L b y' m' d' H' M' S') :
    Op.bytesLess (textU y m d H M S).toList (textU y' m' d' H' M' S').toList = decide (a < b) := by
  rw [Lib.toList_data, Lib.toList_data, less_textU h.can h.time h'.can h'.time, h.sec, h'.sec]
  have k := h.day.lt g h'.day
  rw [Bool.eq_iff_iff, decide_eq_true_iff, decide_eq_true_iff, k]
theorem isOf_one {a b y m d H M S : Int} (g : GTab st ah en L) (h : IsOf st ah en L a y m d H M S) (h' : IsOf st ah en L b y m d H M S) : a = b := by
  have h1 := h.sec
  have h2 := h'.sec
  omega
end
end Go.Proofs.YtcknllkbeadmlaaDoor

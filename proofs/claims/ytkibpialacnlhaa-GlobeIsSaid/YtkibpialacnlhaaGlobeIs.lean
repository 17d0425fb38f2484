/-
  Of and Global answer what the document says: for every drift, every slice of entries (of more than 100 the law asks nothing) and every own time the law answers true; without conditions.
  The walk is the prover's own; the frame of the row's step follows the kit's template.
-/
import Derived.Test.YtkibpialacnlhaaRows
import Derived.Test.YtkibpialacnlhaaLawKit
import Derived.Test.YtkibpialacnlhaaFlat
import Derived.Test.YtkibpialacnlhaaGbF
import Derived.LoopTactic
import Derived.Deep.CutBlock
import Derived.BigQuiet
namespace Go.Proofs.Ytkibpialacnlhaa.globeIs
open Go.ChangeShapes Go.WideShapes Go.ChangeAt Go.RowKit Go.ChangeMaps Go.WideElems
set_option linter.unusedVariables false

theorem cells1 {W : World} {vs : List Value} (h : Fit W [.int .i64, .int .i64, .int .i64] vs) : ∃ (s0 : Int) (s1 : Int) (s2 : Int), vs = [.int .i64 s0, .int .i64 s1, .int .i64 s2] ∧ (Lit.int .i64 s0).wf = true ∧ (Lit.int .i64 s1).wf = true ∧ (Lit.int .i64 s2).wf = true := by
  match vs, h.length, h with
  | [y0, y1, y2], _, h =>
    obtain ⟨⟨x0, rfl, h0⟩, ⟨x1, rfl, h1⟩, ⟨x2, rfl, h2⟩, _⟩ := h
    exact ⟨x0, x1, x2, rfl, h0, h1, h2⟩
theorem own : ownKnob Try.prog.godebug = none := by kernel_rfl
set_option linter.unusedSimpArgs false in
set_option maxHeartbeats 4000000 in
set_option maxRecDepth 100000 in
theorem walk (a0 : Int) (A1 : Option Addr) (n1 c1 : Nat) (f1 : Nat → List Value) (a2 : Int) (w : World) (w0 : (Lit.int .i64 a0).wf = true) (w1 : FlatRow w [.int .i64, .int .i64, .int .i64] A1 n1 c1 f1) (w2 : (Lit.int .i64 a2).wf = true) :
    Calls Try.prog 3 #[.int .i64 a0, .slice A1 n1 c1, .int .i64 a2] w fun e w' => e = .returned (.bool true) ∧ Below w.heap.size w w' := by
  by_cases h100 : 100 < n1
  · have d0 : decide ((100 : Int) < (n1 : Int)) = true := decide_eq_true (by omega)
    go_enter Try.func3, Try.ntmps3
    go_wp2_with (first
      | ((go_at_call 8; refine (alive_yes _).mono ?_; rintro e w1 ⟨rfl, hb1⟩; have HB1 := Lib.hid hb1; clear hb1))
      | ((go_at_call 9; refine (HF.out _ HB1.out).mono ?_; rintro e w2 ⟨z, A, c, rfl, ht⟩; have hof := HOf.out w2 _ ht.tab.src; have HD2 := Lib.hid ht.doc; have HB2 := Lib.hid (HB1.out.trans (ht.below.mono HB1.out.size)); clear ht))
      | ((go_at_call 10; refine hof.mono ?_; rintro e w3 ⟨rfl, hb3⟩; have HM3 := Lib.hid (HMs.out w3); have HB3 := Lib.hid (HB2.out.trans (hb3.mono HB2.out.size)); have HD3 := Lib.hid (HD2.out.below (hb3.trans (HM3.out.below.mono hb3.size))); clear hb3 hof))
      | ((go_at_call 11; (first | refine (HRf.out _ _ _ _ _ HD3.out).mono ?_ | refine (HRf.out _ _ _ _ HD3.out).mono ?_); rintro e w4 ⟨rfl, hb4⟩; have HN4 := Lib.hid (HNs.out w4); have HM4 := Lib.hid ((HM3.out.next hb4).next HN4.out.below); have HB4 := Lib.hid (HB3.out.trans (HM4.out.below.mono HB3.out.size)); obtain ⟨m0, m1, m2, m3, m4, _⟩ := HM4.out.cells5; obtain ⟨p0, p1, p2, p3, p4, _⟩ := HN4.out.cells5; clear hb4))
      | ((go_at_call 10; refine (HOf.out _ _ (Src.nil _)).mono ?_; rintro e w7 ⟨rfl, hb7⟩; have HM7 := Lib.hid (HMs.out w7); have HM5 := Lib.hid ((HM4.out.next hb7).next HM7.out.below); have HB7 := Lib.hid (HB3.out.trans (HM5.out.below.mono HB3.out.size)); obtain ⟨m0, m1, m2, m3, m4, _⟩ := HM5.out.cells5; obtain ⟨p0, p1, p2, p3, p4, _⟩ := HM7.out.cells5; clear hb7))
      | ((go_at_call 12; with_reducible refine (HGa.out _).mono ?_; rintro e w5 ⟨rfl, hb5⟩; have HM5 := Lib.hid (HM4.out.next hb5); have HN5 := Lib.hid (HN4.out.next hb5); have HB5 := Lib.hid (HB3.out.trans (HM5.out.below.mono HB3.out.size)); obtain ⟨p0, p1, p2, p3, p4, _⟩ := HN5.out.cells5; clear hb5))
      | ((go_at_call 13; with_reducible refine (HRg.out _).mono ?_; rintro e w6 ⟨rfl, hb6⟩; have HM6 := Lib.hid (HM5.out.next hb6); have HB6 := Lib.hid (HB3.out.trans (HM6.out.below.mono HB3.out.size)); clear hb6)))
    go_ret
    exact ⟨rfl, HB1.out⟩
  have d0 : decide ((100 : Int) < (n1 : Int)) = false := decide_eq_false (by omega)
  obtain ⟨L0, hL, _⟩ := trow_of_flat w1
  have hfl := fun W (hW : Below w.heap.size w W) => filled_any W 0 A1 n1 c1 L0 (hL.below hW) (by omega)
  have h8 := fill8 L0
  obtain ⟨L, hLL⟩ : ∃ L, fillL L0 = L := ⟨_, rfl⟩
  simp only [hLL] at hfl h8
  have HF := Lib.hid hfl
  clear hfl hLL hL w1
  by_cases hne : L = []
  · subst hne
    have HOf := Lib.hid (fun W q (hS : Src W q []) => globe_none a0 W q hS)
    have HRf := Lib.hid (fun W B A c (h : TRow W B A 0 c []) => rmap_none a0 W B A c h)
    have HMs := Lib.hid (fun (W : World) => Box.start W 31 #[.int .i64 0, .int .i64 0, .int .i64 0, .int .i64 0, .int .i64 0])
    have HNs := Lib.hid (fun (W : World) => Box.start W 35 #[.int .i64 0, .int .i64 0, .int .i64 0, .int .i64 0, .int .i64 0])
    have HE := Lib.hid trivial
    unfold mapV at HOf HRf
    go_enter Try.func3, Try.ntmps3
    go_wp2_with (first
      | ((go_at_call 8; refine (alive_yes _).mono ?_; rintro e w1 ⟨rfl, hb1⟩; have HB1 := Lib.hid hb1; clear hb1))
      | ((go_at_call 9; refine (HF.out _ HB1.out).mono ?_; rintro e w2 ⟨z, A, c, rfl, ht⟩; have hof := HOf.out w2 _ ht.tab.src; have HD2 := Lib.hid ht.doc; have HB2 := Lib.hid (HB1.out.trans (ht.below.mono HB1.out.size)); clear ht))
      | ((go_at_call 10; refine hof.mono ?_; rintro e w3 ⟨rfl, hb3⟩; have HM3 := Lib.hid (HMs.out w3); have HB3 := Lib.hid (HB2.out.trans (hb3.mono HB2.out.size)); have HD3 := Lib.hid (HD2.out.below (hb3.trans (HM3.out.below.mono hb3.size))); clear hb3 hof))
      | ((go_at_call 11; (first | refine (HRf.out _ _ _ _ _ HD3.out).mono ?_ | refine (HRf.out _ _ _ _ HD3.out).mono ?_); rintro e w4 ⟨rfl, hb4⟩; have HN4 := Lib.hid (HNs.out w4); have HM4 := Lib.hid ((HM3.out.next hb4).next HN4.out.below); have HB4 := Lib.hid (HB3.out.trans (HM4.out.below.mono HB3.out.size)); obtain ⟨m0, m1, m2, m3, m4, _⟩ := HM4.out.cells5; obtain ⟨p0, p1, p2, p3, p4, _⟩ := HN4.out.cells5; clear hb4))
      | ((go_at_call 10; refine (HOf.out _ _ (Src.nil _)).mono ?_; rintro e w7 ⟨rfl, hb7⟩; have HM7 := Lib.hid (HMs.out w7); have HM5 := Lib.hid ((HM4.out.next hb7).next HM7.out.below); have HB7 := Lib.hid (HB3.out.trans (HM5.out.below.mono HB3.out.size)); obtain ⟨m0, m1, m2, m3, m4, _⟩ := HM5.out.cells5; obtain ⟨p0, p1, p2, p3, p4, _⟩ := HM7.out.cells5; clear hb7))
      | ((go_at_call 12; with_reducible refine (HGa.out _).mono ?_; rintro e w5 ⟨rfl, hb5⟩; have HM5 := Lib.hid (HM4.out.next hb5); have HN5 := Lib.hid (HN4.out.next hb5); have HB5 := Lib.hid (HB3.out.trans (HM5.out.below.mono HB3.out.size)); obtain ⟨p0, p1, p2, p3, p4, _⟩ := HN5.out.cells5; clear hb5))
      | ((go_at_call 13; with_reducible refine (HRg.out _).mono ?_; rintro e w6 ⟨rfl, hb6⟩; have HM6 := Lib.hid (HM5.out.next hb6); have HB6 := Lib.hid (HB3.out.trans (HM6.out.below.mono HB3.out.size)); clear hb6)))
    go_ret
    exact ⟨rfl, HB7.out⟩
  have hm := map_ok a0 h8 hne
  have hof := fun W q (hS : Src W q L) => globe_some a0 W q L hS hne h8.can
  have hrf := fun W B A n c (h : TRow W B A n c L) => rmap_some a0 W B A n c L h h8 hne
  unfold mapOf at hof hrf
  obtain ⟨l, hl⟩ : ∃ x, locV L = x := ⟨_, rfl⟩
  obtain ⟨o, ho⟩ : ∃ x, offV L = x := ⟨_, rfl⟩
  obtain ⟨a, ha⟩ : ∃ x, (ofV a0 L).1 = x := ⟨_, rfl⟩
  obtain ⟨b, hb⟩ : ∃ x, (ofV a0 L).2 = x := ⟨_, rfl⟩
  obtain ⟨mo, hmo⟩ : ∃ x, mostL L = x := ⟨_, rfl⟩
  simp only [hl, ho, ha, hb, hmo] at hof hrf hm
  obtain ⟨ga, ka, hga⟩ := glob_ex l o a b a2
  have hgla := fun W => global_any _ _ l o a b mo a2 ga ka W hm hga
  have hrgl := fun W => rglobal_any _ _ l o a b mo a2 ga ka W hm hga
  unfold mapV at hof hrf hgla hrgl
  have HOf := Lib.hid hof
  have HRf := Lib.hid hrf
  have HGa := Lib.hid hgla
  have HRg := Lib.hid hrgl
  have HMs := Lib.hid (fun (W : World) => Box.start W 31 #[.int .i64 l, .int .i64 o, .int .i64 a, .int .i64 b, .int .i64 mo])
  have HNs := Lib.hid (fun (W : World) => Box.start W 35 #[.int .i64 l, .int .i64 o, .int .i64 a, .int .i64 b, .int .i64 mo])
  clear hof hrf hgla hrgl hl ho ha hb hmo hga hm h8 hne
  go_enter Try.func3, Try.ntmps3
  go_wp2_with (first
    | ((go_at_call 8; refine (alive_yes _).mono ?_; rintro e w1 ⟨rfl, hb1⟩; have HB1 := Lib.hid hb1; clear hb1))
    | ((go_at_call 9; refine (HF.out _ HB1.out).mono ?_; rintro e w2 ⟨z, A, c, rfl, ht⟩; have hof := HOf.out w2 _ ht.tab.src; have HD2 := Lib.hid ht.doc; have HB2 := Lib.hid (HB1.out.trans (ht.below.mono HB1.out.size)); clear ht))
    | ((go_at_call 10; refine hof.mono ?_; rintro e w3 ⟨rfl, hb3⟩; have HM3 := Lib.hid (HMs.out w3); have HB3 := Lib.hid (HB2.out.trans (hb3.mono HB2.out.size)); have HD3 := Lib.hid (HD2.out.below (hb3.trans (HM3.out.below.mono hb3.size))); clear hb3 hof))
    | ((go_at_call 11; (first | refine (HRf.out _ _ _ _ _ HD3.out).mono ?_ | refine (HRf.out _ _ _ _ HD3.out).mono ?_); rintro e w4 ⟨rfl, hb4⟩; have HN4 := Lib.hid (HNs.out w4); have HM4 := Lib.hid ((HM3.out.next hb4).next HN4.out.below); have HB4 := Lib.hid (HB3.out.trans (HM4.out.below.mono HB3.out.size)); obtain ⟨m0, m1, m2, m3, m4, _⟩ := HM4.out.cells5; obtain ⟨p0, p1, p2, p3, p4, _⟩ := HN4.out.cells5; clear hb4))
    | ((go_at_call 10; refine (HOf.out _ _ (Src.nil _)).mono ?_; rintro e w7 ⟨rfl, hb7⟩; have HM7 := Lib.hid (HMs.out w7); have HM5 := Lib.hid ((HM4.out.next hb7).next HM7.out.below); have HB7 := Lib.hid (HB3.out.trans (HM5.out.below.mono HB3.out.size)); obtain ⟨m0, m1, m2, m3, m4, _⟩ := HM5.out.cells5; obtain ⟨p0, p1, p2, p3, p4, _⟩ := HM7.out.cells5; clear hb7))
    | ((go_at_call 12; with_reducible refine (HGa.out _).mono ?_; rintro e w5 ⟨rfl, hb5⟩; have HM5 := Lib.hid (HM4.out.next hb5); have HN5 := Lib.hid (HN4.out.next hb5); have HB5 := Lib.hid (HB3.out.trans (HM5.out.below.mono HB3.out.size)); obtain ⟨p0, p1, p2, p3, p4, _⟩ := HN5.out.cells5; clear hb5))
    | ((go_at_call 13; with_reducible refine (HRg.out _).mono ?_; rintro e w6 ⟨rfl, hb6⟩; have HM6 := Lib.hid (HM5.out.next hb6); have HB6 := Lib.hid (HB3.out.trans (HM6.out.below.mono HB3.out.size)); clear hb6)))
  go_ret
  exact ⟨by cases ka <;> rfl, HB6.out⟩

set_option maxRecDepth 100000 in
theorem lifted (os : Os) (started : os.Started) (H : Type) (enc : TypeId × Value → H) :
    ReturnsInHanded {} Try.checked os 3 .any (Rows.globeIsSpec.pre6 enc Try.prog Try.f3 Rows.globeIsRow.domain false) (Rows.globeIsSpec.post enc Try.prog Try.f3 false true false false) := by
  refine returnsInHanded_of_change (C := Try.checked) own started (by kernel_rfl) Try.func3
    (ChangeSpec.witness6 (enc := enc) (C := Try.checked) false ⟨#[], #[.int .i64 0, .slice none 0 0, .int .i64 0], []⟩ 8 (by kernel_rfl) (by kernel_rfl) (by kernel_rfl) (by kernel_rfl)) ?_
  intro W base args ds gs before hval0 hW hcnd _
  have hval : ∀ (j : Nat) t v, Try.f3.params[j]? = some t → args[j]? = some v → Value.okWide Try.prog W .any base t v := hval0
  have hW' := hW
  obtain ⟨p, q, hA0, hV, rfl, hfz, hnd⟩ := hW
  have hA : DataW.TrodAll enc Try.prog W 0 (fun _ => true) true Try.f3.params.toList args.toList ds p := hA0
  have hAk := hA
  rw [Try.params3] at hA hval
  obtain ⟨v0, vs0, d0, ds0, p0, q0, hargs, rfl, hp, h0, r0⟩ := trodAll_cons hA
  obtain ⟨v1, vs1, d1, ds1, p1, q1, rfl, rfl, rfl, h1, r1⟩ := trodAll_cons r0
  obtain ⟨v2, vs2, d2, ds2, p2, q2, rfl, rfl, rfl, h2, r2⟩ := trodAll_cons r1
  obtain ⟨rfl, rfl, rfl⟩ := trodAll_nil r2
  obtain rfl : args = #[v0, v1, v2] := by cases args; simp_all
  obtain ⟨rfl, rfl⟩ := trodVars_none hV
  clear hA0 hval0 hargs
  simp only [List.append_nil] at hW'
  have hend : ∀ W' : World, Below W.heap.size W W' → Rows.globeIsSpec.post enc Try.prog Try.f3 false true false false W #[v0, v1, v2] (.bool true) W' := fun W' hb =>
    law_post (tb := 4) hW' hAk rfl (by kernel_rfl) (by kernel_rfl) (by kernel_rfl) Try.underlying4 rfl rfl rfl hb
  clear hW' hAk hp
  obtain ⟨a0, rfl, rfl, rfl, w0⟩ := open_int Try.underlying3 (hval 0 3 v0 rfl rfl) h0
  obtain ⟨A1, n1, c1, f1, rfl, w1⟩ := flats_arg (ks := [.int .i64, .int .i64, .int .i64]) 9 Try.underlying22 (by kernel_rfl) (by kernel_rfl) (by decide) (hval 1 22 v1 rfl rfl) h1
  obtain ⟨a2, rfl, rfl, rfl, w2⟩ := open_int Try.underlying3 (hval 2 3 v2 rfl rfl) h2
  refine (walk a0 A1 n1 c1 f1 a2 W w0 w1 w2).mono fun e W' ⟨he, hg⟩ => ?_
  subst he
  exact ⟨_, rfl, hend W' hg⟩

theorem over : Rows.globeIsRow.holds Try.pinned (OpenSpec.ofChange Rows.globeIsSpec) :=
  OpenClaim.holds_of_wide 3 Try.f3 rfl rfl rfl rfl rfl rfl rfl ⟨rfl, rfl, rfl, rfl, rfl⟩ rfl rfl rfl rfl rfl (by kernel_rfl) Try.func3 (by kernel_rfl)
    (of_decide_eq_true (by kernel_rfl)) (by unfold Func.isWrapper; first | (rw [if_pos (by decide +kernel)]; kernel_rfl) | (rw [if_neg (by decide +kernel)]; exact ⟨rfl, rfl⟩))
    (fun os started H enc _ => lifted os started H enc)

/-- THE STATEMENT -/
theorem proved : Rows.GlobeIsSaid :=
  over
#print axioms proved
end Go.Proofs.Ytkibpialacnlhaa.globeIs

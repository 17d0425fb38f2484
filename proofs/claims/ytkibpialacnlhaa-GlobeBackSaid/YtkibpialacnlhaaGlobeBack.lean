/-
  Back answers the least own time at which the other clock's isn't below what is asked for, and of Global's answer a time no later than the one that was asked of, with the same Global: for every drift, every slice of entries (of more than 100 the law asks nothing), every own time and every time that is asked for the law answers true; without conditions.
  The walk is the prover's own; the frame of the row's step follows the kit's template.
-/
import Derived.Test.YtkibpialacnlhaaRows
import Derived.Test.YtkibpialacnlhaaLawKit
import Derived.Test.YtkibpialacnlhaaFlat
import Derived.Test.YtkibpialacnlhaaGbF
import Derived.LoopTactic
import Derived.Deep.CutBlock
import Derived.BigQuiet
namespace Go.Proofs.Ytkibpialacnlhaa.globeBack
open Go.ChangeShapes Go.WideShapes Go.ChangeAt Go.RowKit Go.ChangeMaps Go.WideElems
set_option linter.unusedVariables false

theorem cells1 {W : World} {vs : List Value} (h : Fit W [.int .i64, .int .i64, .int .i64] vs) : ∃ (s0 : Int) (s1 : Int) (s2 : Int), vs = [.int .i64 s0, .int .i64 s1, .int .i64 s2] ∧ (Lit.int .i64 s0).wf = true ∧ (Lit.int .i64 s1).wf = true ∧ (Lit.int .i64 s2).wf = true := by
  match vs, h.length, h with
  | [y0, y1, y2], _, h =>
    obtain ⟨⟨x0, rfl, h0⟩, ⟨x1, rfl, h1⟩, ⟨x2, rfl, h2⟩, _⟩ := h
    exact ⟨x0, x1, x2, rfl, h0, h1, h2⟩
theorem own : ownKnob Try.prog.godebug = none := by kernel_rfl
/-- What Global tells has a least own time, no later than the one that was asked of. -/
theorem back_of_glob {c e l o a b t g : Int} (hm : MapOk c e l o a b) (hg : Glob l o a b t g true) : ∃ x, BackIs l o a b g x true ∧ x ≤ t ∧ Glob l o a b x g true := by
  rcases hg.is with ⟨h1, h2, rfl, _⟩ | ⟨_, _, k⟩
  · obtain ⟨i, hi⟩ := least_ex hm (rawV l o a b t)
    obtain ⟨t1, t2⟩ := h1
    have hit : (i : Int) ≤ t := by
      refine Classical.byContradiction fun hn => ?_
      have := hi.lo t.toNat (by omega)
      rw [show ((t.toNat : Nat) : Int) = t by omega] at this
      omega
    have k1 := hi.hi i (Nat.le_refl _) (by omega)
    have k2 := hm.mono (s := (i : Int)) (t := t) (by omega) hit (by omega)
    have k3 : rawV l o a b i = rawV l o a b t := by omega
    exact ⟨i, ⟨i, hi, .inl ⟨h2, ⟨by omega, by omega⟩, by rw [k3]; exact h2, rfl, rfl⟩⟩, hit, ⟨.inl ⟨⟨by omega, by omega⟩, by rw [k3]; exact h2, k3.symm, rfl⟩⟩⟩
  · cases k
theorem back_yes {l o a b g x : Int} (h : BackIs l o a b g x true) : ∃ i : Nat, x = i ∧ i ≤ 1125899906842624 ∧ Glob l o a b i (rawV l o a b i) true ∧ g ≤ rawV l o a b i ∧ (0 < i → rawV l o a b ((i : Int) - 1) < g) ∧ 0 ≤ g ∧ g ≤ 1125899906842624 := by
  obtain ⟨i, hi, hx⟩ := h.is
  rcases hx with ⟨h1, h2, h3, rfl, _⟩ | ⟨_, _, k⟩
  · obtain ⟨t1, t2⟩ := h2
    refine ⟨i, rfl, by omega, ⟨.inl ⟨⟨t1, t2⟩, h3, rfl, rfl⟩⟩, hi.hi i (Nat.le_refl _) (by omega), fun hp => ?_, h1.1, h1.2⟩
    have := hi.lo (i - 1) (by omega)
    rwa [show ((i - 1 : Nat) : Int) = (i : Int) - 1 by omega] at this
  · cases k
theorem back_no {l o a b g x : Int} (h : BackIs l o a b g x false) : x = 0 := by
  obtain ⟨i, hi, hx⟩ := h.is
  rcases hx with ⟨_, _, _, _, k⟩ | ⟨_, k, _⟩
  · cases k
  · exact k
set_option linter.unusedSimpArgs false in
set_option maxHeartbeats 8000000 in
set_option maxRecDepth 100000 in
theorem walk (a0 : Int) (A1 : Option Addr) (n1 c1 : Nat) (f1 : Nat → List Value) (a2 : Int) (a3 : Int) (w : World) (w0 : (Lit.int .i64 a0).wf = true) (w1 : FlatRow w [.int .i64, .int .i64, .int .i64] A1 n1 c1 f1) (w2 : (Lit.int .i64 a2).wf = true) (w3 : (Lit.int .i64 a3).wf = true) :
    Calls Try.prog 5 #[.int .i64 a0, .slice A1 n1 c1, .int .i64 a2, .int .i64 a3] w fun e w' => e = .returned (.bool true) ∧ Below w.heap.size w w' := by
  by_cases h100 : 100 < n1
  · have d0 : decide ((100 : Int) < (n1 : Int)) = true := decide_eq_true (by omega)
    go_enter Try.func5, Try.ntmps5
    go_wp2_with (first
      | ((go_at_call 8; refine (alive_yes _).mono ?_; rintro e w1 ⟨rfl, hb1⟩; have HB1 := Lib.hid hb1; clear hb1))
      | ((go_at_call 9; refine (HF.out _ HB1.out).mono ?_; rintro e w2 ⟨z, A, c, rfl, ht⟩; have hof := HOf.out w2 _ ht.tab.src; have HD2 := Lib.hid ht.doc; have HB2 := Lib.hid (HB1.out.trans (ht.below.mono HB1.out.size)); clear ht))
      | ((go_at_call 10; refine hof.mono ?_; rintro e w3 ⟨rfl, hb3⟩; have HM := Lib.hid (HMs.out w3); have HB3 := Lib.hid (HB2.out.trans (hb3.mono HB2.out.size)); have HD3 := Lib.hid (HD2.out.below (hb3.trans (HM.out.below.mono hb3.size))); clear hb3 hof))
      | ((go_at_call 11; (first | refine (HRf.out _ _ _ _ _ HD3.out).mono ?_ | refine (HRf.out _ _ _ _ HD3.out).mono ?_); rintro e w4 ⟨rfl, hb4⟩; have HN := Lib.hid (HNs.out w4); replace HM := Lib.hid ((HM.out.next hb4).next HN.out.below); obtain ⟨m0, m1, m2, m3, m4, _⟩ := HM.out.cells5; obtain ⟨p0, p1, p2, p3, p4, _⟩ := HN.out.cells5; clear hb4 HD3))
      | ((go_at_call 12; with_reducible refine (HGa.out _).mono ?_; rintro e w5 ⟨rfl, hb⟩; replace HM := Lib.hid (HM.out.next hb); replace HN := Lib.hid (HN.out.next hb); obtain ⟨m0, m1, m2, m3, m4, _⟩ := HM.out.cells5; obtain ⟨p0, p1, p2, p3, p4, _⟩ := HN.out.cells5; clear hb))
      | ((go_at_call 16; with_reducible refine (HBk.out _).mono ?_; rintro e w6 ⟨rfl, hb⟩; replace HM := Lib.hid (HM.out.next hb); replace HN := Lib.hid (HN.out.next hb); obtain ⟨m0, m1, m2, m3, m4, _⟩ := HM.out.cells5; obtain ⟨p0, p1, p2, p3, p4, _⟩ := HN.out.cells5; clear hb))
      | ((go_at_call 12; with_reducible refine (HGx.out _).mono ?_; rintro e w7 ⟨rfl, hb⟩; replace HM := Lib.hid (HM.out.next hb); replace HN := Lib.hid (HN.out.next hb); obtain ⟨m0, m1, m2, m3, m4, _⟩ := HM.out.cells5; obtain ⟨p0, p1, p2, p3, p4, _⟩ := HN.out.cells5; clear hb))
      | ((go_at_call 16; with_reducible refine (HBx.out _).mono ?_; rintro e w8 ⟨rfl, hb⟩; replace HM := Lib.hid (HM.out.next hb); replace HN := Lib.hid (HN.out.next hb); obtain ⟨m0, m1, m2, m3, m4, _⟩ := HM.out.cells5; obtain ⟨p0, p1, p2, p3, p4, _⟩ := HN.out.cells5; clear hb))
      | ((go_at_call 17; with_reducible refine (HRn.out _).mono ?_; rintro e w9 ⟨rfl, hb⟩; replace HM := Lib.hid (HM.out.next hb); replace HN := Lib.hid (HN.out.next hb); obtain ⟨m0, m1, m2, m3, m4, _⟩ := HM.out.cells5; obtain ⟨p0, p1, p2, p3, p4, _⟩ := HN.out.cells5; clear hb))
      | ((go_at_call 13; with_reducible refine (HRg.out _).mono ?_; rintro e w10 ⟨rfl, hb⟩; replace HM := Lib.hid (HM.out.next hb); replace HN := Lib.hid (HN.out.next hb); obtain ⟨m0, m1, m2, m3, m4, _⟩ := HM.out.cells5; obtain ⟨p0, p1, p2, p3, p4, _⟩ := HN.out.cells5; clear hb))
      | ((go_at_call 18; with_reducible refine (HRw.out _).mono ?_; rintro e w11 ⟨rfl, hb⟩; replace HM := Lib.hid (HM.out.next hb); replace HN := Lib.hid (HN.out.next hb); obtain ⟨m0, m1, m2, m3, m4, _⟩ := HM.out.cells5; obtain ⟨p0, p1, p2, p3, p4, _⟩ := HN.out.cells5; clear hb)))
    go_ret
    exact ⟨rfl, HB1.out⟩
  have d0 : decide ((100 : Int) < (n1 : Int)) = false := decide_eq_false (by omega)
  obtain ⟨L0, hL, _⟩ := trow_of_flat w1
  have hfl := fun W (hW : Below w.heap.size w W) => filled_any W 0 A1 n1 c1 L0 (hL.below hW) (by omega)
  have h8 := fill8 L0
  obtain ⟨L, hLL⟩ : ∃ L, fillL L0 = L := ⟨_, rfl⟩
  simp only [hLL] at hfl h8
  have HF := Lib.hid hfl
  clear hfl hLL hL w1 h100
  by_cases hne : L = []
  · subst hne
    have HOf := Lib.hid (fun W q (hS : Src W q []) => globe_none a0 W q hS)
    have HRf := Lib.hid (fun W B A c (h : TRow W B A 0 c []) => rmap_none a0 W B A c h)
    have HMs := Lib.hid (fun (W : World) => Box.start W 31 #[.int .i64 0, .int .i64 0, .int .i64 0, .int .i64 0, .int .i64 0])
    have HNs := Lib.hid (fun (W : World) => Box.start W 35 #[.int .i64 0, .int .i64 0, .int .i64 0, .int .i64 0, .int .i64 0])
    unfold mapV at HOf HRf
    go_enter Try.func5, Try.ntmps5
    go_wp2_with (first
      | ((go_at_call 8; refine (alive_yes _).mono ?_; rintro e w1 ⟨rfl, hb1⟩; have HB1 := Lib.hid hb1; clear hb1))
      | ((go_at_call 9; refine (HF.out _ HB1.out).mono ?_; rintro e w2 ⟨z, A, c, rfl, ht⟩; have hof := HOf.out w2 _ ht.tab.src; have HD2 := Lib.hid ht.doc; have HB2 := Lib.hid (HB1.out.trans (ht.below.mono HB1.out.size)); clear ht))
      | ((go_at_call 10; refine hof.mono ?_; rintro e w3 ⟨rfl, hb3⟩; have HM := Lib.hid (HMs.out w3); have HB3 := Lib.hid (HB2.out.trans (hb3.mono HB2.out.size)); have HD3 := Lib.hid (HD2.out.below (hb3.trans (HM.out.below.mono hb3.size))); clear hb3 hof))
      | ((go_at_call 11; (first | refine (HRf.out _ _ _ _ _ HD3.out).mono ?_ | refine (HRf.out _ _ _ _ HD3.out).mono ?_); rintro e w4 ⟨rfl, hb4⟩; have HN := Lib.hid (HNs.out w4); replace HM := Lib.hid ((HM.out.next hb4).next HN.out.below); obtain ⟨m0, m1, m2, m3, m4, _⟩ := HM.out.cells5; obtain ⟨p0, p1, p2, p3, p4, _⟩ := HN.out.cells5; clear hb4 HD3))
      | ((go_at_call 12; with_reducible refine (HGa.out _).mono ?_; rintro e w5 ⟨rfl, hb⟩; replace HM := Lib.hid (HM.out.next hb); replace HN := Lib.hid (HN.out.next hb); obtain ⟨m0, m1, m2, m3, m4, _⟩ := HM.out.cells5; obtain ⟨p0, p1, p2, p3, p4, _⟩ := HN.out.cells5; clear hb))
      | ((go_at_call 16; with_reducible refine (HBk.out _).mono ?_; rintro e w6 ⟨rfl, hb⟩; replace HM := Lib.hid (HM.out.next hb); replace HN := Lib.hid (HN.out.next hb); obtain ⟨m0, m1, m2, m3, m4, _⟩ := HM.out.cells5; obtain ⟨p0, p1, p2, p3, p4, _⟩ := HN.out.cells5; clear hb))
      | ((go_at_call 12; with_reducible refine (HGx.out _).mono ?_; rintro e w7 ⟨rfl, hb⟩; replace HM := Lib.hid (HM.out.next hb); replace HN := Lib.hid (HN.out.next hb); obtain ⟨m0, m1, m2, m3, m4, _⟩ := HM.out.cells5; obtain ⟨p0, p1, p2, p3, p4, _⟩ := HN.out.cells5; clear hb))
      | ((go_at_call 16; with_reducible refine (HBx.out _).mono ?_; rintro e w8 ⟨rfl, hb⟩; replace HM := Lib.hid (HM.out.next hb); replace HN := Lib.hid (HN.out.next hb); obtain ⟨m0, m1, m2, m3, m4, _⟩ := HM.out.cells5; obtain ⟨p0, p1, p2, p3, p4, _⟩ := HN.out.cells5; clear hb))
      | ((go_at_call 17; with_reducible refine (HRn.out _).mono ?_; rintro e w9 ⟨rfl, hb⟩; replace HM := Lib.hid (HM.out.next hb); replace HN := Lib.hid (HN.out.next hb); obtain ⟨m0, m1, m2, m3, m4, _⟩ := HM.out.cells5; obtain ⟨p0, p1, p2, p3, p4, _⟩ := HN.out.cells5; clear hb))
      | ((go_at_call 13; with_reducible refine (HRg.out _).mono ?_; rintro e w10 ⟨rfl, hb⟩; replace HM := Lib.hid (HM.out.next hb); replace HN := Lib.hid (HN.out.next hb); obtain ⟨m0, m1, m2, m3, m4, _⟩ := HM.out.cells5; obtain ⟨p0, p1, p2, p3, p4, _⟩ := HN.out.cells5; clear hb))
      | ((go_at_call 18; with_reducible refine (HRw.out _).mono ?_; rintro e w11 ⟨rfl, hb⟩; replace HM := Lib.hid (HM.out.next hb); replace HN := Lib.hid (HN.out.next hb); obtain ⟨m0, m1, m2, m3, m4, _⟩ := HM.out.cells5; obtain ⟨p0, p1, p2, p3, p4, _⟩ := HN.out.cells5; clear hb)))
    go_ret
    exact ⟨rfl, HB3.out.trans (HM.out.below.mono HB3.out.size)⟩
  have hm := map_ok a0 h8 hne
  have hof := fun W q (hS : Src W q L) => globe_some a0 W q L hS hne h8.can
  have hrf := fun W B A n c (h : TRow W B A n c L) => rmap_some a0 W B A n c L h h8 hne
  unfold mapOf at hof hrf
  obtain ⟨l, hl⟩ : ∃ x, locV L = x := ⟨_, rfl⟩
  obtain ⟨o, ho⟩ : ∃ x, offV L = x := ⟨_, rfl⟩
  obtain ⟨a, ha⟩ : ∃ x, (ofV a0 L).1 = x := ⟨_, rfl⟩
  obtain ⟨b, hb⟩ : ∃ x, (ofV a0 L).2 = x := ⟨_, rfl⟩
  obtain ⟨mo, hmo⟩ : ∃ x, mostL L = x := ⟨_, rfl⟩
  simp only [hl, ho, ha, hb, hmo] at hof hrf hm
  obtain ⟨ga, ka, hga⟩ := glob_ex l o a b a2
  have hA : ka = true → ∃ x, BackIs l o a b ga x true ∧ x ≤ a2 ∧ Glob l o a b x ga true := fun e => by
    subst e
    exact back_of_glob hm hga
  have hgla := fun W => global_any _ _ l o a b mo a2 ga ka W hm hga
  obtain ⟨x, kx, hx⟩ := back_ex hm a3
  have hbx := fun W => back_any _ _ l o a b mo a3 x kx W hm hx
  have HMo := Lib.hid hm
  unfold mapV at hof hrf hgla hbx
  have HOf := Lib.hid hof
  have HRf := Lib.hid hrf
  have HGa := Lib.hid hgla
  have HBx := Lib.hid hbx
  have HMs := Lib.hid (fun (W : World) => Box.start W 31 #[.int .i64 l, .int .i64 o, .int .i64 a, .int .i64 b, .int .i64 mo])
  have HNs := Lib.hid (fun (W : World) => Box.start W 35 #[.int .i64 l, .int .i64 o, .int .i64 a, .int .i64 b, .int .i64 mo])
  clear hof hrf hgla hbx hl ho ha hb hmo h8 hne
  cases kx
  case false =>
    obtain rfl := back_no hx
    by_cases g1 : a3 < 0
    · have d1 : decide (a3 < 0) = true := decide_eq_true g1
      clear g1 hx hm
      cases ka
      · clear hA hga
        go_enter Try.func5, Try.ntmps5
        go_wp2_with (first
          | ((go_at_call 8; refine (alive_yes _).mono ?_; rintro e w1 ⟨rfl, hb1⟩; have HB1 := Lib.hid hb1; clear hb1))
          | ((go_at_call 9; refine (HF.out _ HB1.out).mono ?_; rintro e w2 ⟨z, A, c, rfl, ht⟩; have hof := HOf.out w2 _ ht.tab.src; have HD2 := Lib.hid ht.doc; have HB2 := Lib.hid (HB1.out.trans (ht.below.mono HB1.out.size)); clear ht))
          | ((go_at_call 10; refine hof.mono ?_; rintro e w3 ⟨rfl, hb3⟩; have HM := Lib.hid (HMs.out w3); have HB3 := Lib.hid (HB2.out.trans (hb3.mono HB2.out.size)); have HD3 := Lib.hid (HD2.out.below (hb3.trans (HM.out.below.mono hb3.size))); clear hb3 hof))
          | ((go_at_call 11; (first | refine (HRf.out _ _ _ _ _ HD3.out).mono ?_ | refine (HRf.out _ _ _ _ HD3.out).mono ?_); rintro e w4 ⟨rfl, hb4⟩; have HN := Lib.hid (HNs.out w4); replace HM := Lib.hid ((HM.out.next hb4).next HN.out.below); obtain ⟨m0, m1, m2, m3, m4, _⟩ := HM.out.cells5; obtain ⟨p0, p1, p2, p3, p4, _⟩ := HN.out.cells5; clear hb4 HD3))
          | ((go_at_call 12; with_reducible refine (HGa.out _).mono ?_; rintro e w5 ⟨rfl, hb⟩; replace HM := Lib.hid (HM.out.next hb); replace HN := Lib.hid (HN.out.next hb); obtain ⟨m0, m1, m2, m3, m4, _⟩ := HM.out.cells5; obtain ⟨p0, p1, p2, p3, p4, _⟩ := HN.out.cells5; clear hb))
          | ((go_at_call 16; with_reducible refine (HBk.out _).mono ?_; rintro e w6 ⟨rfl, hb⟩; replace HM := Lib.hid (HM.out.next hb); replace HN := Lib.hid (HN.out.next hb); obtain ⟨m0, m1, m2, m3, m4, _⟩ := HM.out.cells5; obtain ⟨p0, p1, p2, p3, p4, _⟩ := HN.out.cells5; clear hb))
          | ((go_at_call 12; with_reducible refine (HGx.out _).mono ?_; rintro e w7 ⟨rfl, hb⟩; replace HM := Lib.hid (HM.out.next hb); replace HN := Lib.hid (HN.out.next hb); obtain ⟨m0, m1, m2, m3, m4, _⟩ := HM.out.cells5; obtain ⟨p0, p1, p2, p3, p4, _⟩ := HN.out.cells5; clear hb))
          | ((go_at_call 16; with_reducible refine (HBx.out _).mono ?_; rintro e w8 ⟨rfl, hb⟩; replace HM := Lib.hid (HM.out.next hb); replace HN := Lib.hid (HN.out.next hb); obtain ⟨m0, m1, m2, m3, m4, _⟩ := HM.out.cells5; obtain ⟨p0, p1, p2, p3, p4, _⟩ := HN.out.cells5; clear hb))
          | ((go_at_call 17; with_reducible refine (HRn.out _).mono ?_; rintro e w9 ⟨rfl, hb⟩; replace HM := Lib.hid (HM.out.next hb); replace HN := Lib.hid (HN.out.next hb); obtain ⟨m0, m1, m2, m3, m4, _⟩ := HM.out.cells5; obtain ⟨p0, p1, p2, p3, p4, _⟩ := HN.out.cells5; clear hb))
          | ((go_at_call 13; with_reducible refine (HRg.out _).mono ?_; rintro e w10 ⟨rfl, hb⟩; replace HM := Lib.hid (HM.out.next hb); replace HN := Lib.hid (HN.out.next hb); obtain ⟨m0, m1, m2, m3, m4, _⟩ := HM.out.cells5; obtain ⟨p0, p1, p2, p3, p4, _⟩ := HN.out.cells5; clear hb))
          | ((go_at_call 18; with_reducible refine (HRw.out _).mono ?_; rintro e w11 ⟨rfl, hb⟩; replace HM := Lib.hid (HM.out.next hb); replace HN := Lib.hid (HN.out.next hb); obtain ⟨m0, m1, m2, m3, m4, _⟩ := HM.out.cells5; obtain ⟨p0, p1, p2, p3, p4, _⟩ := HN.out.cells5; clear hb)))
        go_ret
        exact ⟨rfl, HB3.out.trans (HM.out.below.mono HB3.out.size)⟩
      · obtain ⟨x1, k1, k2, k3⟩ := hA rfl
        have hbk := fun W => back_any _ _ l o a b mo ga x1 true W HMo.out k1
        have hgx := fun W => global_any _ _ l o a b mo x1 ga true W HMo.out k3
        unfold mapV at hbk hgx
        have HBk := Lib.hid hbk
        have HGx := Lib.hid hgx
        have f1 : decide (a2 < x1) = false := decide_eq_false (by omega)
        clear hA hga hbk hgx k1 k2 k3
        go_enter Try.func5, Try.ntmps5
        go_wp2_with (first
          | ((go_at_call 8; refine (alive_yes _).mono ?_; rintro e w1 ⟨rfl, hb1⟩; have HB1 := Lib.hid hb1; clear hb1))
          | ((go_at_call 9; refine (HF.out _ HB1.out).mono ?_; rintro e w2 ⟨z, A, c, rfl, ht⟩; have hof := HOf.out w2 _ ht.tab.src; have HD2 := Lib.hid ht.doc; have HB2 := Lib.hid (HB1.out.trans (ht.below.mono HB1.out.size)); clear ht))
          | ((go_at_call 10; refine hof.mono ?_; rintro e w3 ⟨rfl, hb3⟩; have HM := Lib.hid (HMs.out w3); have HB3 := Lib.hid (HB2.out.trans (hb3.mono HB2.out.size)); have HD3 := Lib.hid (HD2.out.below (hb3.trans (HM.out.below.mono hb3.size))); clear hb3 hof))
          | ((go_at_call 11; (first | refine (HRf.out _ _ _ _ _ HD3.out).mono ?_ | refine (HRf.out _ _ _ _ HD3.out).mono ?_); rintro e w4 ⟨rfl, hb4⟩; have HN := Lib.hid (HNs.out w4); replace HM := Lib.hid ((HM.out.next hb4).next HN.out.below); obtain ⟨m0, m1, m2, m3, m4, _⟩ := HM.out.cells5; obtain ⟨p0, p1, p2, p3, p4, _⟩ := HN.out.cells5; clear hb4 HD3))
          | ((go_at_call 12; with_reducible refine (HGa.out _).mono ?_; rintro e w5 ⟨rfl, hb⟩; replace HM := Lib.hid (HM.out.next hb); replace HN := Lib.hid (HN.out.next hb); obtain ⟨m0, m1, m2, m3, m4, _⟩ := HM.out.cells5; obtain ⟨p0, p1, p2, p3, p4, _⟩ := HN.out.cells5; clear hb))
          | ((go_at_call 16; with_reducible refine (HBk.out _).mono ?_; rintro e w6 ⟨rfl, hb⟩; replace HM := Lib.hid (HM.out.next hb); replace HN := Lib.hid (HN.out.next hb); obtain ⟨m0, m1, m2, m3, m4, _⟩ := HM.out.cells5; obtain ⟨p0, p1, p2, p3, p4, _⟩ := HN.out.cells5; clear hb))
          | ((go_at_call 12; with_reducible refine (HGx.out _).mono ?_; rintro e w7 ⟨rfl, hb⟩; replace HM := Lib.hid (HM.out.next hb); replace HN := Lib.hid (HN.out.next hb); obtain ⟨m0, m1, m2, m3, m4, _⟩ := HM.out.cells5; obtain ⟨p0, p1, p2, p3, p4, _⟩ := HN.out.cells5; clear hb))
          | ((go_at_call 16; with_reducible refine (HBx.out _).mono ?_; rintro e w8 ⟨rfl, hb⟩; replace HM := Lib.hid (HM.out.next hb); replace HN := Lib.hid (HN.out.next hb); obtain ⟨m0, m1, m2, m3, m4, _⟩ := HM.out.cells5; obtain ⟨p0, p1, p2, p3, p4, _⟩ := HN.out.cells5; clear hb))
          | ((go_at_call 17; with_reducible refine (HRn.out _).mono ?_; rintro e w9 ⟨rfl, hb⟩; replace HM := Lib.hid (HM.out.next hb); replace HN := Lib.hid (HN.out.next hb); obtain ⟨m0, m1, m2, m3, m4, _⟩ := HM.out.cells5; obtain ⟨p0, p1, p2, p3, p4, _⟩ := HN.out.cells5; clear hb))
          | ((go_at_call 13; with_reducible refine (HRg.out _).mono ?_; rintro e w10 ⟨rfl, hb⟩; replace HM := Lib.hid (HM.out.next hb); replace HN := Lib.hid (HN.out.next hb); obtain ⟨m0, m1, m2, m3, m4, _⟩ := HM.out.cells5; obtain ⟨p0, p1, p2, p3, p4, _⟩ := HN.out.cells5; clear hb))
          | ((go_at_call 18; with_reducible refine (HRw.out _).mono ?_; rintro e w11 ⟨rfl, hb⟩; replace HM := Lib.hid (HM.out.next hb); replace HN := Lib.hid (HN.out.next hb); obtain ⟨m0, m1, m2, m3, m4, _⟩ := HM.out.cells5; obtain ⟨p0, p1, p2, p3, p4, _⟩ := HN.out.cells5; clear hb)))
        go_ret
        exact ⟨rfl, HB3.out.trans (HM.out.below.mono HB3.out.size)⟩
    have d1 : decide (a3 < 0) = false := decide_eq_false g1
    by_cases g2 : 1125899906842624 < a3
    · have d2 : decide (1125899906842624 < a3) = true := decide_eq_true g2
      clear g1 g2 hx hm
      cases ka
      · clear hA hga
        go_enter Try.func5, Try.ntmps5
        go_wp2_with (first
          | ((go_at_call 8; refine (alive_yes _).mono ?_; rintro e w1 ⟨rfl, hb1⟩; have HB1 := Lib.hid hb1; clear hb1))
          | ((go_at_call 9; refine (HF.out _ HB1.out).mono ?_; rintro e w2 ⟨z, A, c, rfl, ht⟩; have hof := HOf.out w2 _ ht.tab.src; have HD2 := Lib.hid ht.doc; have HB2 := Lib.hid (HB1.out.trans (ht.below.mono HB1.out.size)); clear ht))
          | ((go_at_call 10; refine hof.mono ?_; rintro e w3 ⟨rfl, hb3⟩; have HM := Lib.hid (HMs.out w3); have HB3 := Lib.hid (HB2.out.trans (hb3.mono HB2.out.size)); have HD3 := Lib.hid (HD2.out.below (hb3.trans (HM.out.below.mono hb3.size))); clear hb3 hof))
          | ((go_at_call 11; (first | refine (HRf.out _ _ _ _ _ HD3.out).mono ?_ | refine (HRf.out _ _ _ _ HD3.out).mono ?_); rintro e w4 ⟨rfl, hb4⟩; have HN := Lib.hid (HNs.out w4); replace HM := Lib.hid ((HM.out.next hb4).next HN.out.below); obtain ⟨m0, m1, m2, m3, m4, _⟩ := HM.out.cells5; obtain ⟨p0, p1, p2, p3, p4, _⟩ := HN.out.cells5; clear hb4 HD3))
          | ((go_at_call 12; with_reducible refine (HGa.out _).mono ?_; rintro e w5 ⟨rfl, hb⟩; replace HM := Lib.hid (HM.out.next hb); replace HN := Lib.hid (HN.out.next hb); obtain ⟨m0, m1, m2, m3, m4, _⟩ := HM.out.cells5; obtain ⟨p0, p1, p2, p3, p4, _⟩ := HN.out.cells5; clear hb))
          | ((go_at_call 16; with_reducible refine (HBk.out _).mono ?_; rintro e w6 ⟨rfl, hb⟩; replace HM := Lib.hid (HM.out.next hb); replace HN := Lib.hid (HN.out.next hb); obtain ⟨m0, m1, m2, m3, m4, _⟩ := HM.out.cells5; obtain ⟨p0, p1, p2, p3, p4, _⟩ := HN.out.cells5; clear hb))
          | ((go_at_call 12; with_reducible refine (HGx.out _).mono ?_; rintro e w7 ⟨rfl, hb⟩; replace HM := Lib.hid (HM.out.next hb); replace HN := Lib.hid (HN.out.next hb); obtain ⟨m0, m1, m2, m3, m4, _⟩ := HM.out.cells5; obtain ⟨p0, p1, p2, p3, p4, _⟩ := HN.out.cells5; clear hb))
          | ((go_at_call 16; with_reducible refine (HBx.out _).mono ?_; rintro e w8 ⟨rfl, hb⟩; replace HM := Lib.hid (HM.out.next hb); replace HN := Lib.hid (HN.out.next hb); obtain ⟨m0, m1, m2, m3, m4, _⟩ := HM.out.cells5; obtain ⟨p0, p1, p2, p3, p4, _⟩ := HN.out.cells5; clear hb))
          | ((go_at_call 17; with_reducible refine (HRn.out _).mono ?_; rintro e w9 ⟨rfl, hb⟩; replace HM := Lib.hid (HM.out.next hb); replace HN := Lib.hid (HN.out.next hb); obtain ⟨m0, m1, m2, m3, m4, _⟩ := HM.out.cells5; obtain ⟨p0, p1, p2, p3, p4, _⟩ := HN.out.cells5; clear hb))
          | ((go_at_call 13; with_reducible refine (HRg.out _).mono ?_; rintro e w10 ⟨rfl, hb⟩; replace HM := Lib.hid (HM.out.next hb); replace HN := Lib.hid (HN.out.next hb); obtain ⟨m0, m1, m2, m3, m4, _⟩ := HM.out.cells5; obtain ⟨p0, p1, p2, p3, p4, _⟩ := HN.out.cells5; clear hb))
          | ((go_at_call 18; with_reducible refine (HRw.out _).mono ?_; rintro e w11 ⟨rfl, hb⟩; replace HM := Lib.hid (HM.out.next hb); replace HN := Lib.hid (HN.out.next hb); obtain ⟨m0, m1, m2, m3, m4, _⟩ := HM.out.cells5; obtain ⟨p0, p1, p2, p3, p4, _⟩ := HN.out.cells5; clear hb)))
        go_ret
        exact ⟨rfl, HB3.out.trans (HM.out.below.mono HB3.out.size)⟩
      · obtain ⟨x1, k1, k2, k3⟩ := hA rfl
        have hbk := fun W => back_any _ _ l o a b mo ga x1 true W HMo.out k1
        have hgx := fun W => global_any _ _ l o a b mo x1 ga true W HMo.out k3
        unfold mapV at hbk hgx
        have HBk := Lib.hid hbk
        have HGx := Lib.hid hgx
        have f1 : decide (a2 < x1) = false := decide_eq_false (by omega)
        clear hA hga hbk hgx k1 k2 k3
        go_enter Try.func5, Try.ntmps5
        go_wp2_with (first
          | ((go_at_call 8; refine (alive_yes _).mono ?_; rintro e w1 ⟨rfl, hb1⟩; have HB1 := Lib.hid hb1; clear hb1))
          | ((go_at_call 9; refine (HF.out _ HB1.out).mono ?_; rintro e w2 ⟨z, A, c, rfl, ht⟩; have hof := HOf.out w2 _ ht.tab.src; have HD2 := Lib.hid ht.doc; have HB2 := Lib.hid (HB1.out.trans (ht.below.mono HB1.out.size)); clear ht))
          | ((go_at_call 10; refine hof.mono ?_; rintro e w3 ⟨rfl, hb3⟩; have HM := Lib.hid (HMs.out w3); have HB3 := Lib.hid (HB2.out.trans (hb3.mono HB2.out.size)); have HD3 := Lib.hid (HD2.out.below (hb3.trans (HM.out.below.mono hb3.size))); clear hb3 hof))
          | ((go_at_call 11; (first | refine (HRf.out _ _ _ _ _ HD3.out).mono ?_ | refine (HRf.out _ _ _ _ HD3.out).mono ?_); rintro e w4 ⟨rfl, hb4⟩; have HN := Lib.hid (HNs.out w4); replace HM := Lib.hid ((HM.out.next hb4).next HN.out.below); obtain ⟨m0, m1, m2, m3, m4, _⟩ := HM.out.cells5; obtain ⟨p0, p1, p2, p3, p4, _⟩ := HN.out.cells5; clear hb4 HD3))
          | ((go_at_call 12; with_reducible refine (HGa.out _).mono ?_; rintro e w5 ⟨rfl, hb⟩; replace HM := Lib.hid (HM.out.next hb); replace HN := Lib.hid (HN.out.next hb); obtain ⟨m0, m1, m2, m3, m4, _⟩ := HM.out.cells5; obtain ⟨p0, p1, p2, p3, p4, _⟩ := HN.out.cells5; clear hb))
          | ((go_at_call 16; with_reducible refine (HBk.out _).mono ?_; rintro e w6 ⟨rfl, hb⟩; replace HM := Lib.hid (HM.out.next hb); replace HN := Lib.hid (HN.out.next hb); obtain ⟨m0, m1, m2, m3, m4, _⟩ := HM.out.cells5; obtain ⟨p0, p1, p2, p3, p4, _⟩ := HN.out.cells5; clear hb))
          | ((go_at_call 12; with_reducible refine (HGx.out _).mono ?_; rintro e w7 ⟨rfl, hb⟩; replace HM := Lib.hid (HM.out.next hb); replace HN := Lib.hid (HN.out.next hb); obtain ⟨m0, m1, m2, m3, m4, _⟩ := HM.out.cells5; obtain ⟨p0, p1, p2, p3, p4, _⟩ := HN.out.cells5; clear hb))
          | ((go_at_call 16; with_reducible refine (HBx.out _).mono ?_; rintro e w8 ⟨rfl, hb⟩; replace HM := Lib.hid (HM.out.next hb); replace HN := Lib.hid (HN.out.next hb); obtain ⟨m0, m1, m2, m3, m4, _⟩ := HM.out.cells5; obtain ⟨p0, p1, p2, p3, p4, _⟩ := HN.out.cells5; clear hb))
          | ((go_at_call 17; with_reducible refine (HRn.out _).mono ?_; rintro e w9 ⟨rfl, hb⟩; replace HM := Lib.hid (HM.out.next hb); replace HN := Lib.hid (HN.out.next hb); obtain ⟨m0, m1, m2, m3, m4, _⟩ := HM.out.cells5; obtain ⟨p0, p1, p2, p3, p4, _⟩ := HN.out.cells5; clear hb))
          | ((go_at_call 13; with_reducible refine (HRg.out _).mono ?_; rintro e w10 ⟨rfl, hb⟩; replace HM := Lib.hid (HM.out.next hb); replace HN := Lib.hid (HN.out.next hb); obtain ⟨m0, m1, m2, m3, m4, _⟩ := HM.out.cells5; obtain ⟨p0, p1, p2, p3, p4, _⟩ := HN.out.cells5; clear hb))
          | ((go_at_call 18; with_reducible refine (HRw.out _).mono ?_; rintro e w11 ⟨rfl, hb⟩; replace HM := Lib.hid (HM.out.next hb); replace HN := Lib.hid (HN.out.next hb); obtain ⟨m0, m1, m2, m3, m4, _⟩ := HM.out.cells5; obtain ⟨p0, p1, p2, p3, p4, _⟩ := HN.out.cells5; clear hb)))
        go_ret
        exact ⟨rfl, HB3.out.trans (HM.out.below.mono HB3.out.size)⟩
    have d2 : decide (1125899906842624 < a3) = false := decide_eq_false g2
    have hrn := fun W => reaches_no _ _ l o a b mo a3 0 W hm hx ⟨by omega, by omega⟩
    unfold mapV at hrn
    have HRn := Lib.hid hrn
    clear g1 g2 hx hm hrn
    cases ka
    · clear hA hga
      go_enter Try.func5, Try.ntmps5
      go_wp2_with (first
        | ((go_at_call 8; refine (alive_yes _).mono ?_; rintro e w1 ⟨rfl, hb1⟩; have HB1 := Lib.hid hb1; clear hb1))
        | ((go_at_call 9; refine (HF.out _ HB1.out).mono ?_; rintro e w2 ⟨z, A, c, rfl, ht⟩; have hof := HOf.out w2 _ ht.tab.src; have HD2 := Lib.hid ht.doc; have HB2 := Lib.hid (HB1.out.trans (ht.below.mono HB1.out.size)); clear ht))
        | ((go_at_call 10; refine hof.mono ?_; rintro e w3 ⟨rfl, hb3⟩; have HM := Lib.hid (HMs.out w3); have HB3 := Lib.hid (HB2.out.trans (hb3.mono HB2.out.size)); have HD3 := Lib.hid (HD2.out.below (hb3.trans (HM.out.below.mono hb3.size))); clear hb3 hof))
        | ((go_at_call 11; (first | refine (HRf.out _ _ _ _ _ HD3.out).mono ?_ | refine (HRf.out _ _ _ _ HD3.out).mono ?_); rintro e w4 ⟨rfl, hb4⟩; have HN := Lib.hid (HNs.out w4); replace HM := Lib.hid ((HM.out.next hb4).next HN.out.below); obtain ⟨m0, m1, m2, m3, m4, _⟩ := HM.out.cells5; obtain ⟨p0, p1, p2, p3, p4, _⟩ := HN.out.cells5; clear hb4 HD3))
        | ((go_at_call 12; with_reducible refine (HGa.out _).mono ?_; rintro e w5 ⟨rfl, hb⟩; replace HM := Lib.hid (HM.out.next hb); replace HN := Lib.hid (HN.out.next hb); obtain ⟨m0, m1, m2, m3, m4, _⟩ := HM.out.cells5; obtain ⟨p0, p1, p2, p3, p4, _⟩ := HN.out.cells5; clear hb))
        | ((go_at_call 16; with_reducible refine (HBk.out _).mono ?_; rintro e w6 ⟨rfl, hb⟩; replace HM := Lib.hid (HM.out.next hb); replace HN := Lib.hid (HN.out.next hb); obtain ⟨m0, m1, m2, m3, m4, _⟩ := HM.out.cells5; obtain ⟨p0, p1, p2, p3, p4, _⟩ := HN.out.cells5; clear hb))
        | ((go_at_call 12; with_reducible refine (HGx.out _).mono ?_; rintro e w7 ⟨rfl, hb⟩; replace HM := Lib.hid (HM.out.next hb); replace HN := Lib.hid (HN.out.next hb); obtain ⟨m0, m1, m2, m3, m4, _⟩ := HM.out.cells5; obtain ⟨p0, p1, p2, p3, p4, _⟩ := HN.out.cells5; clear hb))
        | ((go_at_call 16; with_reducible refine (HBx.out _).mono ?_; rintro e w8 ⟨rfl, hb⟩; replace HM := Lib.hid (HM.out.next hb); replace HN := Lib.hid (HN.out.next hb); obtain ⟨m0, m1, m2, m3, m4, _⟩ := HM.out.cells5; obtain ⟨p0, p1, p2, p3, p4, _⟩ := HN.out.cells5; clear hb))
        | ((go_at_call 17; with_reducible refine (HRn.out _).mono ?_; rintro e w9 ⟨rfl, hb⟩; replace HM := Lib.hid (HM.out.next hb); replace HN := Lib.hid (HN.out.next hb); obtain ⟨m0, m1, m2, m3, m4, _⟩ := HM.out.cells5; obtain ⟨p0, p1, p2, p3, p4, _⟩ := HN.out.cells5; clear hb))
        | ((go_at_call 13; with_reducible refine (HRg.out _).mono ?_; rintro e w10 ⟨rfl, hb⟩; replace HM := Lib.hid (HM.out.next hb); replace HN := Lib.hid (HN.out.next hb); obtain ⟨m0, m1, m2, m3, m4, _⟩ := HM.out.cells5; obtain ⟨p0, p1, p2, p3, p4, _⟩ := HN.out.cells5; clear hb))
        | ((go_at_call 18; with_reducible refine (HRw.out _).mono ?_; rintro e w11 ⟨rfl, hb⟩; replace HM := Lib.hid (HM.out.next hb); replace HN := Lib.hid (HN.out.next hb); obtain ⟨m0, m1, m2, m3, m4, _⟩ := HM.out.cells5; obtain ⟨p0, p1, p2, p3, p4, _⟩ := HN.out.cells5; clear hb)))
      go_ret
      exact ⟨rfl, HB3.out.trans (HM.out.below.mono HB3.out.size)⟩
    · obtain ⟨x1, k1, k2, k3⟩ := hA rfl
      have hbk := fun W => back_any _ _ l o a b mo ga x1 true W HMo.out k1
      have hgx := fun W => global_any _ _ l o a b mo x1 ga true W HMo.out k3
      unfold mapV at hbk hgx
      have HBk := Lib.hid hbk
      have HGx := Lib.hid hgx
      have f1 : decide (a2 < x1) = false := decide_eq_false (by omega)
      clear hA hga hbk hgx k1 k2 k3
      go_enter Try.func5, Try.ntmps5
      go_wp2_with (first
        | ((go_at_call 8; refine (alive_yes _).mono ?_; rintro e w1 ⟨rfl, hb1⟩; have HB1 := Lib.hid hb1; clear hb1))
        | ((go_at_call 9; refine (HF.out _ HB1.out).mono ?_; rintro e w2 ⟨z, A, c, rfl, ht⟩; have hof := HOf.out w2 _ ht.tab.src; have HD2 := Lib.hid ht.doc; have HB2 := Lib.hid (HB1.out.trans (ht.below.mono HB1.out.size)); clear ht))
        | ((go_at_call 10; refine hof.mono ?_; rintro e w3 ⟨rfl, hb3⟩; have HM := Lib.hid (HMs.out w3); have HB3 := Lib.hid (HB2.out.trans (hb3.mono HB2.out.size)); have HD3 := Lib.hid (HD2.out.below (hb3.trans (HM.out.below.mono hb3.size))); clear hb3 hof))
        | ((go_at_call 11; (first | refine (HRf.out _ _ _ _ _ HD3.out).mono ?_ | refine (HRf.out _ _ _ _ HD3.out).mono ?_); rintro e w4 ⟨rfl, hb4⟩; have HN := Lib.hid (HNs.out w4); replace HM := Lib.hid ((HM.out.next hb4).next HN.out.below); obtain ⟨m0, m1, m2, m3, m4, _⟩ := HM.out.cells5; obtain ⟨p0, p1, p2, p3, p4, _⟩ := HN.out.cells5; clear hb4 HD3))
        | ((go_at_call 12; with_reducible refine (HGa.out _).mono ?_; rintro e w5 ⟨rfl, hb⟩; replace HM := Lib.hid (HM.out.next hb); replace HN := Lib.hid (HN.out.next hb); obtain ⟨m0, m1, m2, m3, m4, _⟩ := HM.out.cells5; obtain ⟨p0, p1, p2, p3, p4, _⟩ := HN.out.cells5; clear hb))
        | ((go_at_call 16; with_reducible refine (HBk.out _).mono ?_; rintro e w6 ⟨rfl, hb⟩; replace HM := Lib.hid (HM.out.next hb); replace HN := Lib.hid (HN.out.next hb); obtain ⟨m0, m1, m2, m3, m4, _⟩ := HM.out.cells5; obtain ⟨p0, p1, p2, p3, p4, _⟩ := HN.out.cells5; clear hb))
        | ((go_at_call 12; with_reducible refine (HGx.out _).mono ?_; rintro e w7 ⟨rfl, hb⟩; replace HM := Lib.hid (HM.out.next hb); replace HN := Lib.hid (HN.out.next hb); obtain ⟨m0, m1, m2, m3, m4, _⟩ := HM.out.cells5; obtain ⟨p0, p1, p2, p3, p4, _⟩ := HN.out.cells5; clear hb))
        | ((go_at_call 16; with_reducible refine (HBx.out _).mono ?_; rintro e w8 ⟨rfl, hb⟩; replace HM := Lib.hid (HM.out.next hb); replace HN := Lib.hid (HN.out.next hb); obtain ⟨m0, m1, m2, m3, m4, _⟩ := HM.out.cells5; obtain ⟨p0, p1, p2, p3, p4, _⟩ := HN.out.cells5; clear hb))
        | ((go_at_call 17; with_reducible refine (HRn.out _).mono ?_; rintro e w9 ⟨rfl, hb⟩; replace HM := Lib.hid (HM.out.next hb); replace HN := Lib.hid (HN.out.next hb); obtain ⟨m0, m1, m2, m3, m4, _⟩ := HM.out.cells5; obtain ⟨p0, p1, p2, p3, p4, _⟩ := HN.out.cells5; clear hb))
        | ((go_at_call 13; with_reducible refine (HRg.out _).mono ?_; rintro e w10 ⟨rfl, hb⟩; replace HM := Lib.hid (HM.out.next hb); replace HN := Lib.hid (HN.out.next hb); obtain ⟨m0, m1, m2, m3, m4, _⟩ := HM.out.cells5; obtain ⟨p0, p1, p2, p3, p4, _⟩ := HN.out.cells5; clear hb))
        | ((go_at_call 18; with_reducible refine (HRw.out _).mono ?_; rintro e w11 ⟨rfl, hb⟩; replace HM := Lib.hid (HM.out.next hb); replace HN := Lib.hid (HN.out.next hb); obtain ⟨m0, m1, m2, m3, m4, _⟩ := HM.out.cells5; obtain ⟨p0, p1, p2, p3, p4, _⟩ := HN.out.cells5; clear hb)))
      go_ret
      exact ⟨rfl, HB3.out.trans (HM.out.below.mono HB3.out.size)⟩
  case true =>
    obtain ⟨i, rfl, h50, hgi, hge, hlo, hg1, hg2⟩ := back_yes hx
    have hrg := fun W => rglobal_any _ _ l o a b mo i _ true W hm hgi
    by_cases hi0 : i = 0
    · subst hi0
      unfold mapV at hrg
      obtain ⟨R, hR⟩ : ∃ R, rawV l o a b ((0 : Nat) : Int) = R := ⟨_, rfl⟩
      simp only [hR] at hrg hge
      simp only [show (((0 : Nat) : Int)) = 0 from rfl] at hrg
      have HRg := Lib.hid hrg
      have d1 : decide (a3 ≤ R) = true := decide_eq_true hge
      clear hx hm hgi hge hlo hR hrg
      cases ka
      · clear hA hga
        go_enter Try.func5, Try.ntmps5
        go_wp2_with (first
          | ((go_at_call 8; refine (alive_yes _).mono ?_; rintro e w1 ⟨rfl, hb1⟩; have HB1 := Lib.hid hb1; clear hb1))
          | ((go_at_call 9; refine (HF.out _ HB1.out).mono ?_; rintro e w2 ⟨z, A, c, rfl, ht⟩; have hof := HOf.out w2 _ ht.tab.src; have HD2 := Lib.hid ht.doc; have HB2 := Lib.hid (HB1.out.trans (ht.below.mono HB1.out.size)); clear ht))
          | ((go_at_call 10; refine hof.mono ?_; rintro e w3 ⟨rfl, hb3⟩; have HM := Lib.hid (HMs.out w3); have HB3 := Lib.hid (HB2.out.trans (hb3.mono HB2.out.size)); have HD3 := Lib.hid (HD2.out.below (hb3.trans (HM.out.below.mono hb3.size))); clear hb3 hof))
          | ((go_at_call 11; (first | refine (HRf.out _ _ _ _ _ HD3.out).mono ?_ | refine (HRf.out _ _ _ _ HD3.out).mono ?_); rintro e w4 ⟨rfl, hb4⟩; have HN := Lib.hid (HNs.out w4); replace HM := Lib.hid ((HM.out.next hb4).next HN.out.below); obtain ⟨m0, m1, m2, m3, m4, _⟩ := HM.out.cells5; obtain ⟨p0, p1, p2, p3, p4, _⟩ := HN.out.cells5; clear hb4 HD3))
          | ((go_at_call 12; with_reducible refine (HGa.out _).mono ?_; rintro e w5 ⟨rfl, hb⟩; replace HM := Lib.hid (HM.out.next hb); replace HN := Lib.hid (HN.out.next hb); obtain ⟨m0, m1, m2, m3, m4, _⟩ := HM.out.cells5; obtain ⟨p0, p1, p2, p3, p4, _⟩ := HN.out.cells5; clear hb))
          | ((go_at_call 16; with_reducible refine (HBk.out _).mono ?_; rintro e w6 ⟨rfl, hb⟩; replace HM := Lib.hid (HM.out.next hb); replace HN := Lib.hid (HN.out.next hb); obtain ⟨m0, m1, m2, m3, m4, _⟩ := HM.out.cells5; obtain ⟨p0, p1, p2, p3, p4, _⟩ := HN.out.cells5; clear hb))
          | ((go_at_call 12; with_reducible refine (HGx.out _).mono ?_; rintro e w7 ⟨rfl, hb⟩; replace HM := Lib.hid (HM.out.next hb); replace HN := Lib.hid (HN.out.next hb); obtain ⟨m0, m1, m2, m3, m4, _⟩ := HM.out.cells5; obtain ⟨p0, p1, p2, p3, p4, _⟩ := HN.out.cells5; clear hb))
          | ((go_at_call 16; with_reducible refine (HBx.out _).mono ?_; rintro e w8 ⟨rfl, hb⟩; replace HM := Lib.hid (HM.out.next hb); replace HN := Lib.hid (HN.out.next hb); obtain ⟨m0, m1, m2, m3, m4, _⟩ := HM.out.cells5; obtain ⟨p0, p1, p2, p3, p4, _⟩ := HN.out.cells5; clear hb))
          | ((go_at_call 17; with_reducible refine (HRn.out _).mono ?_; rintro e w9 ⟨rfl, hb⟩; replace HM := Lib.hid (HM.out.next hb); replace HN := Lib.hid (HN.out.next hb); obtain ⟨m0, m1, m2, m3, m4, _⟩ := HM.out.cells5; obtain ⟨p0, p1, p2, p3, p4, _⟩ := HN.out.cells5; clear hb))
          | ((go_at_call 13; with_reducible refine (HRg.out _).mono ?_; rintro e w10 ⟨rfl, hb⟩; replace HM := Lib.hid (HM.out.next hb); replace HN := Lib.hid (HN.out.next hb); obtain ⟨m0, m1, m2, m3, m4, _⟩ := HM.out.cells5; obtain ⟨p0, p1, p2, p3, p4, _⟩ := HN.out.cells5; clear hb))
          | ((go_at_call 18; with_reducible refine (HRw.out _).mono ?_; rintro e w11 ⟨rfl, hb⟩; replace HM := Lib.hid (HM.out.next hb); replace HN := Lib.hid (HN.out.next hb); obtain ⟨m0, m1, m2, m3, m4, _⟩ := HM.out.cells5; obtain ⟨p0, p1, p2, p3, p4, _⟩ := HN.out.cells5; clear hb)))
        go_ret
        exact ⟨rfl, HB3.out.trans (HM.out.below.mono HB3.out.size)⟩
      · obtain ⟨x1, k1, k2, k3⟩ := hA rfl
        have hbk := fun W => back_any _ _ l o a b mo ga x1 true W HMo.out k1
        have hgx := fun W => global_any _ _ l o a b mo x1 ga true W HMo.out k3
        unfold mapV at hbk hgx
        have HBk := Lib.hid hbk
        have HGx := Lib.hid hgx
        have f1 : decide (a2 < x1) = false := decide_eq_false (by omega)
        clear hA hga hbk hgx k1 k2 k3
        go_enter Try.func5, Try.ntmps5
        go_wp2_with (first
          | ((go_at_call 8; refine (alive_yes _).mono ?_; rintro e w1 ⟨rfl, hb1⟩; have HB1 := Lib.hid hb1; clear hb1))
          | ((go_at_call 9; refine (HF.out _ HB1.out).mono ?_; rintro e w2 ⟨z, A, c, rfl, ht⟩; have hof := HOf.out w2 _ ht.tab.src; have HD2 := Lib.hid ht.doc; have HB2 := Lib.hid (HB1.out.trans (ht.below.mono HB1.out.size)); clear ht))
          | ((go_at_call 10; refine hof.mono ?_; rintro e w3 ⟨rfl, hb3⟩; have HM := Lib.hid (HMs.out w3); have HB3 := Lib.hid (HB2.out.trans (hb3.mono HB2.out.size)); have HD3 := Lib.hid (HD2.out.below (hb3.trans (HM.out.below.mono hb3.size))); clear hb3 hof))
          | ((go_at_call 11; (first | refine (HRf.out _ _ _ _ _ HD3.out).mono ?_ | refine (HRf.out _ _ _ _ HD3.out).mono ?_); rintro e w4 ⟨rfl, hb4⟩; have HN := Lib.hid (HNs.out w4); replace HM := Lib.hid ((HM.out.next hb4).next HN.out.below); obtain ⟨m0, m1, m2, m3, m4, _⟩ := HM.out.cells5; obtain ⟨p0, p1, p2, p3, p4, _⟩ := HN.out.cells5; clear hb4 HD3))
          | ((go_at_call 12; with_reducible refine (HGa.out _).mono ?_; rintro e w5 ⟨rfl, hb⟩; replace HM := Lib.hid (HM.out.next hb); replace HN := Lib.hid (HN.out.next hb); obtain ⟨m0, m1, m2, m3, m4, _⟩ := HM.out.cells5; obtain ⟨p0, p1, p2, p3, p4, _⟩ := HN.out.cells5; clear hb))
          | ((go_at_call 16; with_reducible refine (HBk.out _).mono ?_; rintro e w6 ⟨rfl, hb⟩; replace HM := Lib.hid (HM.out.next hb); replace HN := Lib.hid (HN.out.next hb); obtain ⟨m0, m1, m2, m3, m4, _⟩ := HM.out.cells5; obtain ⟨p0, p1, p2, p3, p4, _⟩ := HN.out.cells5; clear hb))
          | ((go_at_call 12; with_reducible refine (HGx.out _).mono ?_; rintro e w7 ⟨rfl, hb⟩; replace HM := Lib.hid (HM.out.next hb); replace HN := Lib.hid (HN.out.next hb); obtain ⟨m0, m1, m2, m3, m4, _⟩ := HM.out.cells5; obtain ⟨p0, p1, p2, p3, p4, _⟩ := HN.out.cells5; clear hb))
          | ((go_at_call 16; with_reducible refine (HBx.out _).mono ?_; rintro e w8 ⟨rfl, hb⟩; replace HM := Lib.hid (HM.out.next hb); replace HN := Lib.hid (HN.out.next hb); obtain ⟨m0, m1, m2, m3, m4, _⟩ := HM.out.cells5; obtain ⟨p0, p1, p2, p3, p4, _⟩ := HN.out.cells5; clear hb))
          | ((go_at_call 17; with_reducible refine (HRn.out _).mono ?_; rintro e w9 ⟨rfl, hb⟩; replace HM := Lib.hid (HM.out.next hb); replace HN := Lib.hid (HN.out.next hb); obtain ⟨m0, m1, m2, m3, m4, _⟩ := HM.out.cells5; obtain ⟨p0, p1, p2, p3, p4, _⟩ := HN.out.cells5; clear hb))
          | ((go_at_call 13; with_reducible refine (HRg.out _).mono ?_; rintro e w10 ⟨rfl, hb⟩; replace HM := Lib.hid (HM.out.next hb); replace HN := Lib.hid (HN.out.next hb); obtain ⟨m0, m1, m2, m3, m4, _⟩ := HM.out.cells5; obtain ⟨p0, p1, p2, p3, p4, _⟩ := HN.out.cells5; clear hb))
          | ((go_at_call 18; with_reducible refine (HRw.out _).mono ?_; rintro e w11 ⟨rfl, hb⟩; replace HM := Lib.hid (HM.out.next hb); replace HN := Lib.hid (HN.out.next hb); obtain ⟨m0, m1, m2, m3, m4, _⟩ := HM.out.cells5; obtain ⟨p0, p1, p2, p3, p4, _⟩ := HN.out.cells5; clear hb)))
        go_ret
        exact ⟨rfl, HB3.out.trans (HM.out.below.mono HB3.out.size)⟩
    have hraw := fun W => raw_any _ _ l o a b mo ((i : Int) - 1) W hm (by omega) (by omega)
    unfold mapV at hrg hraw
    have hlo := hlo (by omega)
    obtain ⟨R, hR⟩ : ∃ R, rawV l o a b (i : Int) = R := ⟨_, rfl⟩
    obtain ⟨R1, hR1⟩ : ∃ R, rawV l o a b ((i : Int) - 1) = R := ⟨_, rfl⟩
    simp only [hR] at hrg hge
    simp only [hR1] at hraw hlo
    have HRg := Lib.hid hrg
    have HRw := Lib.hid hraw
    have d1 : decide (a3 ≤ R) = true := decide_eq_true hge
    have d2 : decide (R1 < a3) = true := decide_eq_true hlo
    have d3 : ((i : Int) == 0) = false := by
      have : ¬ (i : Int) = 0 := by omega
      simpa using this
    have d4 : ¬ i = 0 := hi0
    have ew := IntWalk.i64_in ((i : Int) - 1) (by omega)
    clear hx hm hgi hge hlo hR hR1 hrg hraw hi0
    cases ka
    · clear hA hga
      go_enter Try.func5, Try.ntmps5
      go_wp2_with (first
        | ((go_at_call 8; refine (alive_yes _).mono ?_; rintro e w1 ⟨rfl, hb1⟩; have HB1 := Lib.hid hb1; clear hb1))
        | ((go_at_call 9; refine (HF.out _ HB1.out).mono ?_; rintro e w2 ⟨z, A, c, rfl, ht⟩; have hof := HOf.out w2 _ ht.tab.src; have HD2 := Lib.hid ht.doc; have HB2 := Lib.hid (HB1.out.trans (ht.below.mono HB1.out.size)); clear ht))
        | ((go_at_call 10; refine hof.mono ?_; rintro e w3 ⟨rfl, hb3⟩; have HM := Lib.hid (HMs.out w3); have HB3 := Lib.hid (HB2.out.trans (hb3.mono HB2.out.size)); have HD3 := Lib.hid (HD2.out.below (hb3.trans (HM.out.below.mono hb3.size))); clear hb3 hof))
        | ((go_at_call 11; (first | refine (HRf.out _ _ _ _ _ HD3.out).mono ?_ | refine (HRf.out _ _ _ _ HD3.out).mono ?_); rintro e w4 ⟨rfl, hb4⟩; have HN := Lib.hid (HNs.out w4); replace HM := Lib.hid ((HM.out.next hb4).next HN.out.below); obtain ⟨m0, m1, m2, m3, m4, _⟩ := HM.out.cells5; obtain ⟨p0, p1, p2, p3, p4, _⟩ := HN.out.cells5; clear hb4 HD3))
        | ((go_at_call 12; with_reducible refine (HGa.out _).mono ?_; rintro e w5 ⟨rfl, hb⟩; replace HM := Lib.hid (HM.out.next hb); replace HN := Lib.hid (HN.out.next hb); obtain ⟨m0, m1, m2, m3, m4, _⟩ := HM.out.cells5; obtain ⟨p0, p1, p2, p3, p4, _⟩ := HN.out.cells5; clear hb))
        | ((go_at_call 16; with_reducible refine (HBk.out _).mono ?_; rintro e w6 ⟨rfl, hb⟩; replace HM := Lib.hid (HM.out.next hb); replace HN := Lib.hid (HN.out.next hb); obtain ⟨m0, m1, m2, m3, m4, _⟩ := HM.out.cells5; obtain ⟨p0, p1, p2, p3, p4, _⟩ := HN.out.cells5; clear hb))
        | ((go_at_call 12; with_reducible refine (HGx.out _).mono ?_; rintro e w7 ⟨rfl, hb⟩; replace HM := Lib.hid (HM.out.next hb); replace HN := Lib.hid (HN.out.next hb); obtain ⟨m0, m1, m2, m3, m4, _⟩ := HM.out.cells5; obtain ⟨p0, p1, p2, p3, p4, _⟩ := HN.out.cells5; clear hb))
        | ((go_at_call 16; with_reducible refine (HBx.out _).mono ?_; rintro e w8 ⟨rfl, hb⟩; replace HM := Lib.hid (HM.out.next hb); replace HN := Lib.hid (HN.out.next hb); obtain ⟨m0, m1, m2, m3, m4, _⟩ := HM.out.cells5; obtain ⟨p0, p1, p2, p3, p4, _⟩ := HN.out.cells5; clear hb))
        | ((go_at_call 17; with_reducible refine (HRn.out _).mono ?_; rintro e w9 ⟨rfl, hb⟩; replace HM := Lib.hid (HM.out.next hb); replace HN := Lib.hid (HN.out.next hb); obtain ⟨m0, m1, m2, m3, m4, _⟩ := HM.out.cells5; obtain ⟨p0, p1, p2, p3, p4, _⟩ := HN.out.cells5; clear hb))
        | ((go_at_call 13; with_reducible refine (HRg.out _).mono ?_; rintro e w10 ⟨rfl, hb⟩; replace HM := Lib.hid (HM.out.next hb); replace HN := Lib.hid (HN.out.next hb); obtain ⟨m0, m1, m2, m3, m4, _⟩ := HM.out.cells5; obtain ⟨p0, p1, p2, p3, p4, _⟩ := HN.out.cells5; clear hb))
        | ((go_at_call 18; with_reducible refine (HRw.out _).mono ?_; rintro e w11 ⟨rfl, hb⟩; replace HM := Lib.hid (HM.out.next hb); replace HN := Lib.hid (HN.out.next hb); obtain ⟨m0, m1, m2, m3, m4, _⟩ := HM.out.cells5; obtain ⟨p0, p1, p2, p3, p4, _⟩ := HN.out.cells5; clear hb)))
      go_ret
      exact ⟨rfl, HB3.out.trans (HM.out.below.mono HB3.out.size)⟩
    · obtain ⟨x1, k1, k2, k3⟩ := hA rfl
      have hbk := fun W => back_any _ _ l o a b mo ga x1 true W HMo.out k1
      have hgx := fun W => global_any _ _ l o a b mo x1 ga true W HMo.out k3
      unfold mapV at hbk hgx
      have HBk := Lib.hid hbk
      have HGx := Lib.hid hgx
      have f1 : decide (a2 < x1) = false := decide_eq_false (by omega)
      clear hA hga hbk hgx k1 k2 k3
      go_enter Try.func5, Try.ntmps5
      go_wp2_with (first
        | ((go_at_call 8; refine (alive_yes _).mono ?_; rintro e w1 ⟨rfl, hb1⟩; have HB1 := Lib.hid hb1; clear hb1))
        | ((go_at_call 9; refine (HF.out _ HB1.out).mono ?_; rintro e w2 ⟨z, A, c, rfl, ht⟩; have hof := HOf.out w2 _ ht.tab.src; have HD2 := Lib.hid ht.doc; have HB2 := Lib.hid (HB1.out.trans (ht.below.mono HB1.out.size)); clear ht))
        | ((go_at_call 10; refine hof.mono ?_; rintro e w3 ⟨rfl, hb3⟩; have HM := Lib.hid (HMs.out w3); have HB3 := Lib.hid (HB2.out.trans (hb3.mono HB2.out.size)); have HD3 := Lib.hid (HD2.out.below (hb3.trans (HM.out.below.mono hb3.size))); clear hb3 hof))
        | ((go_at_call 11; (first | refine (HRf.out _ _ _ _ _ HD3.out).mono ?_ | refine (HRf.out _ _ _ _ HD3.out).mono ?_); rintro e w4 ⟨rfl, hb4⟩; have HN := Lib.hid (HNs.out w4); replace HM := Lib.hid ((HM.out.next hb4).next HN.out.below); obtain ⟨m0, m1, m2, m3, m4, _⟩ := HM.out.cells5; obtain ⟨p0, p1, p2, p3, p4, _⟩ := HN.out.cells5; clear hb4 HD3))
        | ((go_at_call 12; with_reducible refine (HGa.out _).mono ?_; rintro e w5 ⟨rfl, hb⟩; replace HM := Lib.hid (HM.out.next hb); replace HN := Lib.hid (HN.out.next hb); obtain ⟨m0, m1, m2, m3, m4, _⟩ := HM.out.cells5; obtain ⟨p0, p1, p2, p3, p4, _⟩ := HN.out.cells5; clear hb))
        | ((go_at_call 16; with_reducible refine (HBk.out _).mono ?_; rintro e w6 ⟨rfl, hb⟩; replace HM := Lib.hid (HM.out.next hb); replace HN := Lib.hid (HN.out.next hb); obtain ⟨m0, m1, m2, m3, m4, _⟩ := HM.out.cells5; obtain ⟨p0, p1, p2, p3, p4, _⟩ := HN.out.cells5; clear hb))
        | ((go_at_call 12; with_reducible refine (HGx.out _).mono ?_; rintro e w7 ⟨rfl, hb⟩; replace HM := Lib.hid (HM.out.next hb); replace HN := Lib.hid (HN.out.next hb); obtain ⟨m0, m1, m2, m3, m4, _⟩ := HM.out.cells5; obtain ⟨p0, p1, p2, p3, p4, _⟩ := HN.out.cells5; clear hb))
        | ((go_at_call 16; with_reducible refine (HBx.out _).mono ?_; rintro e w8 ⟨rfl, hb⟩; replace HM := Lib.hid (HM.out.next hb); replace HN := Lib.hid (HN.out.next hb); obtain ⟨m0, m1, m2, m3, m4, _⟩ := HM.out.cells5; obtain ⟨p0, p1, p2, p3, p4, _⟩ := HN.out.cells5; clear hb))
        | ((go_at_call 17; with_reducible refine (HRn.out _).mono ?_; rintro e w9 ⟨rfl, hb⟩; replace HM := Lib.hid (HM.out.next hb); replace HN := Lib.hid (HN.out.next hb); obtain ⟨m0, m1, m2, m3, m4, _⟩ := HM.out.cells5; obtain ⟨p0, p1, p2, p3, p4, _⟩ := HN.out.cells5; clear hb))
        | ((go_at_call 13; with_reducible refine (HRg.out _).mono ?_; rintro e w10 ⟨rfl, hb⟩; replace HM := Lib.hid (HM.out.next hb); replace HN := Lib.hid (HN.out.next hb); obtain ⟨m0, m1, m2, m3, m4, _⟩ := HM.out.cells5; obtain ⟨p0, p1, p2, p3, p4, _⟩ := HN.out.cells5; clear hb))
        | ((go_at_call 18; with_reducible refine (HRw.out _).mono ?_; rintro e w11 ⟨rfl, hb⟩; replace HM := Lib.hid (HM.out.next hb); replace HN := Lib.hid (HN.out.next hb); obtain ⟨m0, m1, m2, m3, m4, _⟩ := HM.out.cells5; obtain ⟨p0, p1, p2, p3, p4, _⟩ := HN.out.cells5; clear hb)))
      go_ret
      exact ⟨rfl, HB3.out.trans (HM.out.below.mono HB3.out.size)⟩

set_option maxRecDepth 100000 in
theorem lifted (os : Os) (started : os.Started) (H : Type) (enc : TypeId × Value → H) :
    ReturnsInHanded {} Try.checked os 5 .any (Rows.globeBackSpec.pre6 enc Try.prog Try.f5 Rows.globeBackRow.domain false) (Rows.globeBackSpec.post enc Try.prog Try.f5 false true false false) := by
  refine returnsInHanded_of_change (C := Try.checked) own started (by kernel_rfl) Try.func5
    (ChangeSpec.witness6 (enc := enc) (C := Try.checked) false ⟨#[], #[.int .i64 0, .slice none 0 0, .int .i64 0, .int .i64 0], []⟩ 8 (by kernel_rfl) (by kernel_rfl) (by kernel_rfl) (by kernel_rfl)) ?_
  intro W base args ds gs before hval0 hW hcnd _
  have hval : ∀ (j : Nat) t v, Try.f5.params[j]? = some t → args[j]? = some v → Value.okWide Try.prog W .any base t v := hval0
  have hW' := hW
  obtain ⟨p, q, hA0, hV, rfl, hfz, hnd⟩ := hW
  have hA : DataW.TrodAll enc Try.prog W 0 (fun _ => true) true Try.f5.params.toList args.toList ds p := hA0
  have hAk := hA
  rw [Try.params5] at hA hval
  obtain ⟨v0, vs0, d0, ds0, p0, q0, hargs, rfl, hp, h0, r0⟩ := trodAll_cons hA
  obtain ⟨v1, vs1, d1, ds1, p1, q1, rfl, rfl, rfl, h1, r1⟩ := trodAll_cons r0
  obtain ⟨v2, vs2, d2, ds2, p2, q2, rfl, rfl, rfl, h2, r2⟩ := trodAll_cons r1
  obtain ⟨v3, vs3, d3, ds3, p3, q3, rfl, rfl, rfl, h3, r3⟩ := trodAll_cons r2
  obtain ⟨rfl, rfl, rfl⟩ := trodAll_nil r3
  obtain rfl : args = #[v0, v1, v2, v3] := by cases args; simp_all
  obtain ⟨rfl, rfl⟩ := trodVars_none hV
  clear hA0 hval0 hargs
  simp only [List.append_nil] at hW'
  have hend : ∀ W' : World, Below W.heap.size W W' → Rows.globeBackSpec.post enc Try.prog Try.f5 false true false false W #[v0, v1, v2, v3] (.bool true) W' := fun W' hb =>
    law_post (tb := 4) hW' hAk rfl (by kernel_rfl) (by kernel_rfl) (by kernel_rfl) Try.underlying4 rfl rfl rfl hb
  clear hW' hAk hp
  obtain ⟨a0, rfl, rfl, rfl, w0⟩ := open_int Try.underlying3 (hval 0 3 v0 rfl rfl) h0
  obtain ⟨A1, n1, c1, f1, rfl, w1⟩ := flats_arg (ks := [.int .i64, .int .i64, .int .i64]) 9 Try.underlying22 (by kernel_rfl) (by kernel_rfl) (by decide) (hval 1 22 v1 rfl rfl) h1
  obtain ⟨a2, rfl, rfl, rfl, w2⟩ := open_int Try.underlying3 (hval 2 3 v2 rfl rfl) h2
  obtain ⟨a3, rfl, rfl, rfl, w3⟩ := open_int Try.underlying3 (hval 3 3 v3 rfl rfl) h3
  refine (walk a0 A1 n1 c1 f1 a2 a3 W w0 w1 w2 w3).mono fun e W' ⟨he, hg⟩ => ?_
  subst he
  exact ⟨_, rfl, hend W' hg⟩

theorem over : Rows.globeBackRow.holds Try.pinned (OpenSpec.ofChange Rows.globeBackSpec) :=
  OpenClaim.holds_of_wide 5 Try.f5 rfl rfl rfl rfl rfl rfl rfl ⟨rfl, rfl, rfl, rfl, rfl⟩ rfl rfl rfl rfl rfl (by kernel_rfl) Try.func5 (by kernel_rfl)
    (of_decide_eq_true (by kernel_rfl)) (by unfold Func.isWrapper; first | (rw [if_pos (by decide +kernel)]; kernel_rfl) | (rw [if_neg (by decide +kernel)]; exact ⟨rfl, rfl⟩))
    (fun os started H enc _ => lifted os started H enc)

/-- THE STATEMENT -/
theorem proved : Rows.GlobeBackSaid :=
  over
#print axioms proved
end Go.Proofs.Ytkibpialacnlhaa.globeBack

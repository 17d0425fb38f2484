/-
  Package leap: of any text Parse answers the table that it tells, or which error, and at which line; the table is a good one, and its text as the document says. Proved of the program's and the document's text. Condition: the library's tables lie as the program's text lays them (the card ties them).
  The walk is the prover's own; the frame of the row's step follows the kit's template.
-/
import Derived.Test.YtiglhmdiiajmhaaDoorRows
import Derived.Test.YtiglhmdiiajmhaaDoorLawKit
import Derived.Test.YtiglhmdiiajmhaaDoorCards
import Derived.Test.YtiglhmdiiajmhaaDoorTie
import Derived.SevenTiedAt
import Derived.Test.YtiglhmdiiajmhaaDoorLpY
import Derived.Test.YtiglhmdiiajmhaaDoorLpP
import Derived.Test.YtiglhmdiiajmhaaDoorLpO
import Derived.Test.YtiglhmdiiajmhaaDoorLpU
import Derived.Test.YtiglhmdiiajmhaaDoorLpV
import Derived.Test.YtiglhmdiiajmhaaDoorLpW
import Derived.Test.YtiglhmdiiajmhaaDoorLrB
namespace Go.Proofs.YtiglhmdiiajmhaaDoor.leapReads
open Go.ChangeShapes Go.WideShapes Go.ChangeAt Go.RowKit Go.ChangeMaps Go.WideElems
set_option linter.unusedVariables false

theorem own : ownKnob Tryd.prog.godebug = none := by kernel_rfl
set_option linter.unusedSimpArgs false
theorem cells4 {w0 w : World} {t : TypeId} {a b c d : Value} (h : Box w0 t #[a, b, c, d] w) : w.cell? ⟨w0.heap.size, 0, none⟩ = some a ∧ w.cell? ⟨w0.heap.size, 1, none⟩ = some b ∧ w.cell? ⟨w0.heap.size, 2, none⟩ = some c ∧ w.cell? ⟨w0.heap.size, 3, none⟩ = some d :=
  ⟨h.holds.cell 0, h.holds.cell 1, h.holds.cell 2, h.holds.cell 3⟩
theorem read_error {s : ByteArray} {n : Nat} {c : Int} {w w' : World} {e : Ending} (hp : parseR s = .error (n, c)) (h : ReadPost s w e w') : e = .returned (.tuple #[.pointer none, .int .i64 (n : Int), .int .i64 c]) ∧ Below w.heap.size w w' := by
  obtain ⟨h1 | h1, hb⟩ := h
  · obtain ⟨T, q, hq, _⟩ := h1
    rw [hp] at hq
    cases hq
  · obtain ⟨n', c', hq, he⟩ := h1
    rw [hp] at hq
    simp only [Except.error.injEq, Prod.mk.injEq] at hq
    obtain ⟨rfl, rfl⟩ := hq
    exact ⟨he, hb⟩
theorem read_ok {s : ByteArray} {T : TB} {w w' : World} {e : Ending} (hp : parseR s = .ok T) (hl : T.lp.length ≤ 1000) (h : ReadPost s w e w') : ∃ q, e = .returned (.tuple #[.pointer (some ⟨q, 0, none⟩), .int .i64 0, .int .i64 0]) ∧ Rt w' w'.heap.size q T ∧ Below w.heap.size w w' := by
  obtain ⟨h1 | h1, hb⟩ := h
  · obtain ⟨T', q, hq, he, ht⟩ := h1
    rw [hp] at hq
    simp only [Except.ok.injEq] at hq
    subst hq
    exact ⟨q, he, ht.rt hl (Nat.le_refl _), hb⟩
  · obtain ⟨n', c', hq, _⟩ := h1
    rw [hp] at hq
    cases hq
theorem rpost_error {s : ByteArray} {n : Nat} {c : Int} {w w' : World} {e : Ending} (hp : parseR s = .error (n, c)) (h : RPost s w e w') : e = .returned (.tuple #[.agg #[.int .i64 0, .int .i64 0, .int .i64 0, .slice none 0 0], .int .i64 (n : Int), .int .i64 c]) ∧ Below w.heap.size w w' := by
  obtain ⟨h1 | h1, hb⟩ := h
  · obtain ⟨T, A, c', hq, _⟩ := h1
    rw [hp] at hq
    cases hq
  · obtain ⟨n', c', hq, he⟩ := h1
    rw [hp] at hq
    simp only [Except.error.injEq, Prod.mk.injEq] at hq
    obtain ⟨rfl, rfl⟩ := hq
    exact ⟨he, hb⟩
theorem rpost_ok {s : ByteArray} {T : TB} {w w' : World} {e : Ending} (hp : parseR s = .ok T) (h : RPost s w e w') : ∃ A c, e = .returned (.tuple #[.agg #[.int .i64 T.st, .int .i64 T.ah, .int .i64 T.en, .slice A T.lp.length c], .int .i64 0, .int .i64 0]) ∧ PRow w' A T.lp.length c T.lp ∧ Below w.heap.size w w' := by
  obtain ⟨h1 | h1, hb⟩ := h
  · obtain ⟨T', A, c, hq, he, hr⟩ := h1
    rw [hp] at hq
    simp only [Except.ok.injEq] at hq
    subst hq
    exact ⟨A, c, he, hr, hb⟩
  · obtain ⟨n', c', hq, _⟩ := h1
    rw [hp] at hq
    cases hq
set_option maxRecDepth 100000 in
set_option maxHeartbeats 8000000 in
theorem walk (a0 : ByteArray) (w : World) (w0 : a0.size ≤ maxLen) (hT : Tab w) (hM : Mt w) :
    Calls Tryd.prog 4 #[.string a0] w fun e w' => e = .returned (.bool true) ∧ Below w.heap.size w w' := by
  have HM := Lib.hid hM
  have HT := Lib.hid hT
  clear hM hT
  by_cases h1 : 32768 < a0.size
  · have d0 : (32768 : Int) < (a0.size : Int) := by omega
    go_enter Tryd.func4, Tryd.ntmps4
    go_wp2_with (first
      | (go_at_call 8; refine (alive_yes _ HM.out).mono ?_; rintro e w1 ⟨rfl, hb1⟩; have HB := Lib.hid hb1; clear hb1)
      | (go_at_call 19; refine (HRE.out _ (HM.out.below HB.out)).mono ?_; rintro e w2 ⟨rfl, hb⟩; have HB := Lib.hid (HB.out.trans (hb.mono HB.out.size)); clear hb)
      | (go_at_call 19; refine (HRD.out _ (HM.out.below HB.out)).mono ?_; rintro e w2 ⟨q, rfl, hr, hb⟩; have HRT := Lib.hid hr; have HB := Lib.hid (HB.out.trans (hb.mono HB.out.size)); clear hb hr)
      | (go_at_call 20; refine (HRX.out _ (HT.out.below HB.out)).mono ?_; rintro e w3 ⟨rfl, hb⟩; have HB := Lib.hid ((HB.out.trans (hb.mono HB.out.size)).alloc (Nat.le_trans HB.out.size hb.size) (.cells #[.int .i64 0, .int .i64 0, .int .i64 0, .slice none 0 0] 24)); clear hb)
      | (go_at_call 20; refine (HRR.out _ (HT.out.below HB.out)).mono ?_; rintro e w3 ⟨A, c, rfl, hp, hb⟩; have HX := Lib.hid (Box.start w3 24 #[.int .i64 T.st, .int .i64 T.ah, .int .i64 T.en, .slice A T.lp.length c]); have HRT := Lib.hid ((((HRT.out.below hb).mono hb.size).below HX.out.below).mono HX.out.below.size); have HPR := Lib.hid (hp.below HX.out.below); have HB := Lib.hid (HB.out.trans (hb.mono HB.out.size)); obtain ⟨c0, c1, c2, c3⟩ := cells4 HX.out; clear hb hp))
    go_ret
    exact ⟨rfl, HB.out⟩
  have d0 : decide ((32768 : Int) < (a0.size : Int)) = false := decide_eq_false (by omega)
  cases hp : parseR a0 with
  | error nc =>
    obtain ⟨n, c⟩ := nc
    have hc0 := parse_error hp
    have HRE := Lib.hid (fun W (hW : Mt W) => (lread_any a0 W hW).mono fun e w' h => read_error hp h)
    have HRX := Lib.hid (fun W (hW : Tab W) => (rread_any a0 W hW).mono fun e w' h => rpost_error hp h)
    have b1 : (c != 0) = true := by simp [hc0]
    have b2 : (c == c) = true := beq_self_eq_true _
    have b3 : ((n : Int) == (n : Int)) = true := beq_self_eq_true _
    clear hp hc0 h1
    go_enter Tryd.func4, Tryd.ntmps4
    go_wp2_with (first
      | (go_at_call 8; refine (alive_yes _ HM.out).mono ?_; rintro e w1 ⟨rfl, hb1⟩; have HB := Lib.hid hb1; clear hb1)
      | (go_at_call 19; refine (HRE.out _ (HM.out.below HB.out)).mono ?_; rintro e w2 ⟨rfl, hb⟩; have HB := Lib.hid (HB.out.trans (hb.mono HB.out.size)); clear hb)
      | (go_at_call 19; refine (HRD.out _ (HM.out.below HB.out)).mono ?_; rintro e w2 ⟨q, rfl, hr, hb⟩; have HRT := Lib.hid hr; have HB := Lib.hid (HB.out.trans (hb.mono HB.out.size)); clear hb hr)
      | (go_at_call 20; refine (HRX.out _ (HT.out.below HB.out)).mono ?_; rintro e w3 ⟨rfl, hb⟩; have HB := Lib.hid ((HB.out.trans (hb.mono HB.out.size)).alloc (Nat.le_trans HB.out.size hb.size) (.cells #[.int .i64 0, .int .i64 0, .int .i64 0, .slice none 0 0] 24)); clear hb)
      | (go_at_call 20; refine (HRR.out _ (HT.out.below HB.out)).mono ?_; rintro e w3 ⟨A, c, rfl, hp, hb⟩; have HX := Lib.hid (Box.start w3 24 #[.int .i64 T.st, .int .i64 T.ah, .int .i64 T.en, .slice A T.lp.length c]); have HRT := Lib.hid ((((HRT.out.below hb).mono hb.size).below HX.out.below).mono HX.out.below.size); have HPR := Lib.hid (hp.below HX.out.below); have HB := Lib.hid (HB.out.trans (hb.mono HB.out.size)); obtain ⟨c0, c1, c2, c3⟩ := cells4 HX.out; clear hb hp))
    go_ret
    exact ⟨rfl, HB.out⟩
  | ok T =>
    obtain ⟨hf, ho, hl, hord⟩ := parse_inv hp
    have hdays : ∀ e ∈ T.lp, -719162 ≤ e.1 ∧ e.1 ≤ 2932896 := fun e he => by have := hord.1 e he; have := hf.s1; have := hf.e2; omega
    have HRD := Lib.hid (fun W (hW : Mt W) => (lread_any a0 W hW).mono fun e w' h => read_ok hp (by omega) h)
    have HRR := Lib.hid (fun W (hW : Tab W) => (rread_any a0 W hW).mono fun e w' h => rpost_ok hp h)
    have HSM := Lib.hid (fun W q A c (h : Rt W W.heap.size q T) (hr : PRow W A T.lp.length c T.lp) => same_yes W _ T.st T.ah T.en T.lp A c h.src hr)
    have HTX := Lib.hid (fun W q (h : Rt W W.heap.size q T) (hW : Tab W) => text_some W q T h hW hf hdays)
    have HRX := Lib.hid (fun W A c (hr : PRow W A T.lp.length c T.lp) (hW : Tab W) => rtabtext_any W T.st T.ah T.en A T.lp.length c T.lp hr (by omega) hW hf ho hdays)
    have HRF := Lib.hid (fun W A c (hr : PRow W A T.lp.length c T.lp) => rfault_any W T.st T.ah T.en A T.lp.length c T.lp hr (by omega))
    rw [fault_zero hf ho hl hord] at HRF
    obtain ⟨TX, hTX⟩ : ∃ TX, textT T = TX := ⟨_, rfl⟩
    rw [show textT ⟨T.st, T.ah, T.en, T.lp⟩ = TX from hTX] at HRX
    rw [hTX] at HTX
    have hbb : (TX.toList == TX.toList) = true := beq_self_eq_true _
    clear hf ho hl hord hdays hTX hp h1
    go_enter Tryd.func4, Tryd.ntmps4
    go_upto_region 9 with (first
      | (go_at_call 8; refine (alive_yes _ HM.out).mono ?_; rintro e w1 ⟨rfl, hb1⟩; have HB := Lib.hid hb1; clear hb1)
      | (go_at_call 19; refine (HRE.out _ (HM.out.below HB.out)).mono ?_; rintro e w2 ⟨rfl, hb⟩; have HB := Lib.hid (HB.out.trans (hb.mono HB.out.size)); clear hb)
      | (go_at_call 19; refine (HRD.out _ (HM.out.below HB.out)).mono ?_; rintro e w2 ⟨q, rfl, hr, hb⟩; have HRT := Lib.hid hr; have HB := Lib.hid (HB.out.trans (hb.mono HB.out.size)); clear hb hr)
      | (go_at_call 20; refine (HRX.out _ (HT.out.below HB.out)).mono ?_; rintro e w3 ⟨rfl, hb⟩; have HB := Lib.hid ((HB.out.trans (hb.mono HB.out.size)).alloc (Nat.le_trans HB.out.size hb.size) (.cells #[.int .i64 0, .int .i64 0, .int .i64 0, .slice none 0 0] 24)); clear hb)
      | (go_at_call 20; refine (HRR.out _ (HT.out.below HB.out)).mono ?_; rintro e w3 ⟨A, c, rfl, hp, hb⟩; have HX := Lib.hid (Box.start w3 24 #[.int .i64 T.st, .int .i64 T.ah, .int .i64 T.en, .slice A T.lp.length c]); have HRT := Lib.hid ((((HRT.out.below hb).mono hb.size).below HX.out.below).mono HX.out.below.size); have HPR := Lib.hid (hp.below HX.out.below); have HB := Lib.hid (HB.out.trans (hb.mono HB.out.size)); obtain ⟨c0, c1, c2, c3⟩ := cells4 HX.out; clear hb hp))
    clear c0 c1 c2 c3
    have HX := Lib.hid HX.out.drew
    have HRT := Lib.hid (show Rt _ _ _ _ from HRT.out.below (Below.refl _ _).drew)
    have HPR := Lib.hid (HPR.out.below (Below.refl _ _).drew)
    refine region_turns (fun (w' : World) => w'.cell? ⟨w3.heap.size, 0, none⟩ = some (.int .i64 T.st) ∧ w'.cell? ⟨w3.heap.size, 1, none⟩ = some (.int .i64 T.ah) ∧ w'.cell? ⟨w3.heap.size, 2, none⟩ = some (.int .i64 T.en) ∧ w'.cell? ⟨w3.heap.size, 3, none⟩ = some (.slice A T.lp.length c)) (fun j => decide (24 ≤ j)) (by kernel_rfl) (cells4 HX.out) (fun hS => ?_)
    refine Turns.take hS 0 _ rfl (by kernel_rfl) (by kernel_rfl) (by kernel_rfl) (by kernel_rfl) (fun _ _ _ h => h) (by rfl) (fun w' hS' => by (try dsimp only at hS'); go_split_ands; go_simp; (try with_reducible rfl)) ?_
    simp only [Act.put, List.getElem_toArray, List.getElem_cons_succ, List.getElem_cons_zero, List.setIfInBounds_toArray, List.set_cons_zero, List.set_cons_succ]
    refine Turns.take hS 1 _ rfl (by kernel_rfl) (by kernel_rfl) (by kernel_rfl) (by kernel_rfl) (fun _ _ _ h => h) (by rfl) (fun w' hS' => by (try dsimp only at hS'); go_split_ands; go_simp; (try with_reducible rfl)) ?_
    simp only [Act.put, List.getElem_toArray, List.getElem_cons_succ, List.getElem_cons_zero, List.setIfInBounds_toArray, List.set_cons_zero, List.set_cons_succ]
    refine Turns.take hS 2 _ rfl (by kernel_rfl) (by kernel_rfl) (by kernel_rfl) (by kernel_rfl) (fun _ _ _ h => h) (by rfl) (fun w' hS' => by (try dsimp only at hS'); go_split_ands; go_simp; (try with_reducible rfl)) ?_
    simp only [Act.put, List.getElem_toArray, List.getElem_cons_succ, List.getElem_cons_zero, List.setIfInBounds_toArray, List.set_cons_zero, List.set_cons_succ]
    refine Turns.take hS 3 _ rfl (by kernel_rfl) (by kernel_rfl) (by kernel_rfl) (by kernel_rfl) (fun _ _ _ h => h) (by rfl) (fun w' hS' => by (try dsimp only at hS'); go_split_ands; go_simp; (try with_reducible rfl)) ?_
    simp only [Act.put, List.getElem_toArray, List.getElem_cons_succ, List.getElem_cons_zero, List.setIfInBounds_toArray, List.set_cons_zero, List.set_cons_succ]
    refine Turns.take hS 4 _ rfl (by kernel_rfl) (by kernel_rfl) (by kernel_rfl) (by kernel_rfl) (fun _ _ _ h => h) (by rfl) (fun w' hS' => by (try dsimp only at hS'); go_split_ands; go_simp; (try with_reducible rfl)) ?_
    simp only [Act.put, List.getElem_toArray, List.getElem_cons_succ, List.getElem_cons_zero, List.setIfInBounds_toArray, List.set_cons_zero, List.set_cons_succ]
    refine Turns.take hS 5 _ rfl (by kernel_rfl) (by kernel_rfl) (by kernel_rfl) (by kernel_rfl) (fun _ _ _ h => h) (by rfl) (fun w' hS' => by (try dsimp only at hS'); go_split_ands; go_simp; (try with_reducible rfl)) ?_
    simp only [Act.put, List.getElem_toArray, List.getElem_cons_succ, List.getElem_cons_zero, List.setIfInBounds_toArray, List.set_cons_zero, List.set_cons_succ]
    refine Turns.take hS 6 _ rfl (by kernel_rfl) (by kernel_rfl) (by kernel_rfl) (by kernel_rfl) (fun _ _ _ h => h) (by rfl) (fun w' hS' => by (try dsimp only at hS'); go_split_ands; go_simp; (try with_reducible rfl)) ?_
    simp only [Act.put, List.getElem_toArray, List.getElem_cons_succ, List.getElem_cons_zero, List.setIfInBounds_toArray, List.set_cons_zero, List.set_cons_succ]
    refine Turns.take hS 7 _ rfl (by kernel_rfl) (by kernel_rfl) (by kernel_rfl) (by kernel_rfl) (fun _ _ _ h => h) (by rfl) (fun w' hS' => by (try dsimp only at hS'); go_split_ands; go_simp; (try with_reducible rfl)) ?_
    simp only [Act.put, List.getElem_toArray, List.getElem_cons_succ, List.getElem_cons_zero, List.setIfInBounds_toArray, List.set_cons_zero, List.set_cons_succ]
    refine Turns.take hS 8 _ rfl (by kernel_rfl) (by kernel_rfl) (by kernel_rfl) (by kernel_rfl) (fun _ _ _ h => h) (by rfl) (fun w' hS' => by (try dsimp only at hS'); go_split_ands; go_simp; (try with_reducible rfl)) ?_
    simp only [Act.put, List.getElem_toArray, List.getElem_cons_succ, List.getElem_cons_zero, List.setIfInBounds_toArray, List.set_cons_zero, List.set_cons_succ]
    refine Turns.next 9 rfl (by kernel_rfl) (by rfl) (fun K hK => ?_)
    go_simp
    go_at_call 15
    refine (HSM.out _ _ _ _ HRT.out HPR.out).mono ?_
    rintro e w5 ⟨rfl, hb⟩
    replace HRT := Lib.hid ((HRT.out.below hb).mono hb.size)
    replace HPR := Lib.hid (HPR.out.below hb)
    replace HX := Lib.hid (HX.out.next hb)
    clear hb
    refine hK.out _ _ (show (fun (w' : World) => w'.cell? ⟨w3.heap.size, 0, none⟩ = some (.int .i64 T.st) ∧ w'.cell? ⟨w3.heap.size, 1, none⟩ = some (.int .i64 T.ah) ∧ w'.cell? ⟨w3.heap.size, 2, none⟩ = some (.int .i64 T.en) ∧ w'.cell? ⟨w3.heap.size, 3, none⟩ = some (.slice A T.lp.length c)) _ from cells4 HX.out) ?_
    clear hK K hS
    have hS := (show (fun (w' : World) => w'.cell? ⟨w3.heap.size, 0, none⟩ = some (.int .i64 T.st) ∧ w'.cell? ⟨w3.heap.size, 1, none⟩ = some (.int .i64 T.ah) ∧ w'.cell? ⟨w3.heap.size, 2, none⟩ = some (.int .i64 T.en) ∧ w'.cell? ⟨w3.heap.size, 3, none⟩ = some (.slice A T.lp.length c)) _ from cells4 HX.out)
    refine Turns.take hS 10 _ rfl (by kernel_rfl) (by kernel_rfl) (by kernel_rfl) (by kernel_rfl) (fun _ _ _ h => h) (by rfl) (fun w' hS' => by (try dsimp only at hS'); go_split_ands; go_simp; (try with_reducible rfl)) ?_
    simp only [Act.put, List.getElem_toArray, List.getElem_cons_succ, List.getElem_cons_zero, List.setIfInBounds_toArray, List.set_cons_zero, List.set_cons_succ]
    refine Turns.take hS 11 _ rfl (by kernel_rfl) (by kernel_rfl) (by kernel_rfl) (by kernel_rfl) (fun _ _ _ h => h) (by rfl) (fun w' hS' => by (try dsimp only at hS'); go_split_ands; go_simp; (try with_reducible rfl)) ?_
    simp only [Act.put, List.getElem_toArray, List.getElem_cons_succ, List.getElem_cons_zero, List.setIfInBounds_toArray, List.set_cons_zero, List.set_cons_succ]
    refine Turns.take hS 12 _ rfl (by kernel_rfl) (by kernel_rfl) (by kernel_rfl) (by kernel_rfl) (fun _ _ _ h => h) (by rfl) (fun w' hS' => by (try dsimp only at hS'); go_split_ands; go_simp; (try with_reducible rfl)) ?_
    simp only [Act.put, List.getElem_toArray, List.getElem_cons_succ, List.getElem_cons_zero, List.setIfInBounds_toArray, List.set_cons_zero, List.set_cons_succ]
    refine Turns.take hS 14 _ rfl (by kernel_rfl) (by kernel_rfl) (by kernel_rfl) (by kernel_rfl) (fun _ _ _ h => h) (by rfl) (fun w' hS' => by (try dsimp only at hS'); go_split_ands; go_simp; (try with_reducible rfl)) ?_
    simp only [Act.put, List.getElem_toArray, List.getElem_cons_succ, List.getElem_cons_zero, List.setIfInBounds_toArray, List.set_cons_zero, List.set_cons_succ]
    refine Turns.next 13 rfl (by kernel_rfl) (by rfl) (fun K hK => ?_)
    go_simp
    go_at_call 14
    refine (HTX.out _ _ HRT.out (HT.out.below (HB.out.trans (HX.out.below.mono HB.out.size)))).mono ?_
    rintro e w6 ⟨rfl, hb⟩
    replace HRT := Lib.hid ((HRT.out.below hb).mono hb.size)
    replace HPR := Lib.hid (HPR.out.below hb)
    replace HX := Lib.hid (HX.out.next hb)
    clear hb
    refine hK.out _ _ (show (fun (w' : World) => w'.cell? ⟨w3.heap.size, 0, none⟩ = some (.int .i64 T.st) ∧ w'.cell? ⟨w3.heap.size, 1, none⟩ = some (.int .i64 T.ah) ∧ w'.cell? ⟨w3.heap.size, 2, none⟩ = some (.int .i64 T.en) ∧ w'.cell? ⟨w3.heap.size, 3, none⟩ = some (.slice A T.lp.length c)) _ from cells4 HX.out) ?_
    clear hK K hS
    have hS := (show (fun (w' : World) => w'.cell? ⟨w3.heap.size, 0, none⟩ = some (.int .i64 T.st) ∧ w'.cell? ⟨w3.heap.size, 1, none⟩ = some (.int .i64 T.ah) ∧ w'.cell? ⟨w3.heap.size, 2, none⟩ = some (.int .i64 T.en) ∧ w'.cell? ⟨w3.heap.size, 3, none⟩ = some (.slice A T.lp.length c)) _ from cells4 HX.out)
    refine Turns.next 15 rfl (by kernel_rfl) (by rfl) (fun K hK => ?_)
    go_simp
    go_at_call 18
    refine (HRX.out _ _ _ HPR.out (HT.out.below (HB.out.trans (HX.out.below.mono HB.out.size)))).mono ?_
    rintro e w7 ⟨rfl, hb⟩
    replace HPR := Lib.hid (HPR.out.below hb)
    replace HX := Lib.hid (HX.out.next hb)
    clear hb
    refine hK.out _ _ (show (fun (w' : World) => w'.cell? ⟨w3.heap.size, 0, none⟩ = some (.int .i64 T.st) ∧ w'.cell? ⟨w3.heap.size, 1, none⟩ = some (.int .i64 T.ah) ∧ w'.cell? ⟨w3.heap.size, 2, none⟩ = some (.int .i64 T.en) ∧ w'.cell? ⟨w3.heap.size, 3, none⟩ = some (.slice A T.lp.length c)) _ from cells4 HX.out) ?_
    clear hK K hS
    have hS := (show (fun (w' : World) => w'.cell? ⟨w3.heap.size, 0, none⟩ = some (.int .i64 T.st) ∧ w'.cell? ⟨w3.heap.size, 1, none⟩ = some (.int .i64 T.ah) ∧ w'.cell? ⟨w3.heap.size, 2, none⟩ = some (.int .i64 T.en) ∧ w'.cell? ⟨w3.heap.size, 3, none⟩ = some (.slice A T.lp.length c)) _ from cells4 HX.out)
    refine Turns.take hS 16 _ rfl (by kernel_rfl) (by kernel_rfl) (by kernel_rfl) (by kernel_rfl) (fun _ _ _ h => h) (by rfl) (fun w' hS' => by (try dsimp only at hS'); go_split_ands; go_simp; (try with_reducible rfl)) ?_
    simp only [Act.put, List.getElem_toArray, List.getElem_cons_succ, List.getElem_cons_zero, List.setIfInBounds_toArray, List.set_cons_zero, List.set_cons_succ]
    refine Turns.take hS 17 _ rfl (by kernel_rfl) (by kernel_rfl) (by kernel_rfl) (by kernel_rfl) (fun _ _ _ h => h) (by rfl) (fun w' hS' => by (try dsimp only at hS'); go_split_ands; go_simp; (try with_reducible rfl)) ?_
    simp only [Act.put, List.getElem_toArray, List.getElem_cons_succ, List.getElem_cons_zero, List.setIfInBounds_toArray, List.set_cons_zero, List.set_cons_succ]
    refine Turns.take hS 18 _ rfl (by kernel_rfl) (by kernel_rfl) (by kernel_rfl) (by kernel_rfl) (fun _ _ _ h => h) (by rfl) (fun w' hS' => by (try dsimp only at hS'); go_split_ands; go_simp; (try with_reducible rfl)) ?_
    simp only [Act.put, List.getElem_toArray, List.getElem_cons_succ, List.getElem_cons_zero, List.setIfInBounds_toArray, List.set_cons_zero, List.set_cons_succ]
    refine Turns.take hS 19 _ rfl (by kernel_rfl) (by kernel_rfl) (by kernel_rfl) (by kernel_rfl) (fun _ _ _ h => h) (by rfl) (fun w' hS' => by (try dsimp only at hS'); go_split_ands; go_simp; (try with_reducible rfl)) ?_
    simp only [Act.put, List.getElem_toArray, List.getElem_cons_succ, List.getElem_cons_zero, List.setIfInBounds_toArray, List.set_cons_zero, List.set_cons_succ]
    refine Turns.next 20 rfl (by kernel_rfl) (by rfl) (fun K hK => ?_)
    go_simp
    go_at_call 10
    refine (HRF.out _ _ _ HPR.out).mono ?_
    rintro e w8 ⟨rfl, hb⟩
    replace HX := Lib.hid (HX.out.next hb)
    clear hb
    refine hK.out _ _ (show (fun (w' : World) => w'.cell? ⟨w3.heap.size, 0, none⟩ = some (.int .i64 T.st) ∧ w'.cell? ⟨w3.heap.size, 1, none⟩ = some (.int .i64 T.ah) ∧ w'.cell? ⟨w3.heap.size, 2, none⟩ = some (.int .i64 T.en) ∧ w'.cell? ⟨w3.heap.size, 3, none⟩ = some (.slice A T.lp.length c)) _ from cells4 HX.out) ?_
    clear hK K hS
    have hS := (show (fun (w' : World) => w'.cell? ⟨w3.heap.size, 0, none⟩ = some (.int .i64 T.st) ∧ w'.cell? ⟨w3.heap.size, 1, none⟩ = some (.int .i64 T.ah) ∧ w'.cell? ⟨w3.heap.size, 2, none⟩ = some (.int .i64 T.en) ∧ w'.cell? ⟨w3.heap.size, 3, none⟩ = some (.slice A T.lp.length c)) _ from cells4 HX.out)
    refine Turns.take hS 21 _ rfl (by kernel_rfl) (by kernel_rfl) (by kernel_rfl) (by kernel_rfl) (fun _ _ _ h => h) (by rfl) (fun w' hS' => by (try dsimp only at hS'); go_split_ands; go_simp; (try with_reducible rfl)) ?_
    simp only [Act.put, List.getElem_toArray, List.getElem_cons_succ, List.getElem_cons_zero, List.setIfInBounds_toArray, List.set_cons_zero, List.set_cons_succ]
    refine Turns.take hS 22 _ rfl (by kernel_rfl) (by kernel_rfl) (by kernel_rfl) (by kernel_rfl) (fun _ _ _ h => h) (by rfl) (fun w' hS' => by (try dsimp only at hS'); go_split_ands; go_simp; (try with_reducible rfl)) ?_
    simp only [Act.put, List.getElem_toArray, List.getElem_cons_succ, List.getElem_cons_zero, List.setIfInBounds_toArray, List.set_cons_zero, List.set_cons_succ]
    refine Turns.take hS 23 _ rfl (by kernel_rfl) (by kernel_rfl) (by kernel_rfl) (by kernel_rfl) (fun _ _ _ h => h) (by rfl) (fun w' hS' => by (try dsimp only at hS'); go_split_ands; go_simp; (try with_reducible rfl)) ?_
    simp only [Act.put, List.getElem_toArray, List.getElem_cons_succ, List.getElem_cons_zero, List.setIfInBounds_toArray, List.set_cons_zero, List.set_cons_succ]
    refine Turns.rest (late_done (by kernel_rfl)) ?_
    refine any_tail 24 (by rfl) (by kernel_rfl) ?_
    simp only [List.drop_succ_cons, List.drop_zero]
    clear hS
    go_wp2
    go_ret
    exact ⟨rfl, HB.out.trans (HX.out.below.mono HB.out.size)⟩

set_option maxRecDepth 100000 in
theorem lifted (os : Os) (started : os.Started) (H : Type) (enc : TypeId × Value → H) :
    ReturnsInHanded {} Tryd.checked os 4 .any (fun w args => (Rows.leapReadsSpec.pre enc Tryd.prog Tryd.f4 [] false w args ∧ laidMetH Tryd.prog laidTab w) ∧ sizedMet enc Tryd.prog Tryd.f4 (OpenSpec.ofChange Rows.leapReadsSpec) false w args) (Rows.leapReadsSpec.post enc Tryd.prog Tryd.f4 false true false false) := by
  refine returnsInHanded_and_shaped (C := Tryd.checked) (X := fun w _ => laidMetH Tryd.prog laidTab w) (fun _ _ _ hh h => h.of_heap hh) own started (by kernel_rfl) Tryd.func4
    (ChangeSpec.witness_shaped (enc := enc) (C := Tryd.checked) (os := os) (X := fun w _ => laidMetH Tryd.prog laidTab w) false (World.laidAll Tryd.prog os laidTab) #[.string ⟨#[]⟩] 8 (World.laidAll_os _ _ _) (World.shaped_of_ZipB (by kernel_rfl) (by kernel_rfl)) (by kernel_rfl) (by kernel_rfl) (by kernel_rfl) (door_met os _)) ?_
  intro W base args ds gs before hval0 hW hL hsh
  have hval : ∀ (j : Nat) t v, Tryd.f4.params[j]? = some t → args[j]? = some v → Value.okWide Tryd.prog W .any base t v := hval0
  have hW' := hW
  obtain ⟨p, q, hA0, hV, rfl, hfz, hnd⟩ := hW
  have hA : DataW.TrodAll enc Tryd.prog W 0 (fun _ => true) true Tryd.f4.params.toList args.toList ds p := hA0
  have hAk := hA
  rw [Tryd.params4] at hA hval
  obtain ⟨v0, vs0, d0, ds0, p0, q0, hargs, rfl, hp, h0, r0⟩ := trodAll_cons hA
  obtain ⟨rfl, rfl, rfl⟩ := trodAll_nil r0
  obtain rfl : args = #[v0] := by cases args; simp_all
  obtain ⟨rfl, rfl⟩ := trodVars_none hV
  clear hA0 hval0 hargs
  simp only [List.append_nil] at hW'
  have hend : ∀ W' : World, Below W.heap.size W W' → Rows.leapReadsSpec.post enc Tryd.prog Tryd.f4 false true false false W #[v0] (.bool true) W' := fun W' hb =>
    law_post (tb := 4) hW' hAk rfl (by kernel_rfl) (by kernel_rfl) (by kernel_rfl) Tryd.underlying4 rfl rfl rfl hb
  clear hW' hAk hp
  obtain ⟨a0, rfl, rfl, rfl, w0⟩ := open_string Tryd.underlying9 (hval 0 9 v0 rfl rfl) h0
  refine (walk a0 W w0 (tab_of_laid hL) (mt_of_shaped hsh)).mono fun e W' ⟨he, hg⟩ => ?_
  subst he
  exact ⟨_, rfl, hend W' hg⟩

theorem over : Rows.leapReadsRow.holds Tryd.pinned (OpenSpec.ofChange Rows.leapReadsSpec) :=
  OpenClaim.holds_of_wide 4 Tryd.f4 rfl rfl rfl rfl rfl rfl rfl ⟨rfl, rfl, rfl, rfl, rfl⟩ rfl rfl rfl rfl rfl (by kernel_rfl) Tryd.func4 (by kernel_rfl)
    (of_decide_eq_true (by kernel_rfl)) (by unfold Func.isWrapper; first | (rw [if_pos (by decide +kernel)]; kernel_rfl) | (rw [if_neg (by decide +kernel)]; exact ⟨rfl, rfl⟩))
    (fun os started H enc _ => lifted os started H enc)

/-- THE STATEMENT: the tied card -/
theorem proved : Rows.LeapReadsCardSaid :=
  Claim7.holds_tied_plain_at .later [] [.data, .data, .data, .data, .pinned] true (true, "7c37e060eaa0f112e89e4d22143b27731f1469fff835db8b9bba8390e6494458") true
    over (fun _ h => by cases h) (by kernel_rfl) (fun _ h => by cases h) leapReads_row_tie rfl ⟨rfl, rfl⟩ (by kernel_rfl) rfl
    (fun f fn hf hfn => by
      obtain rfl : f = 4 := Option.some.inj ((show Tryd.prog.funcNamed "angelus/angeluslaw21.LeapReads" = some 4 by kernel_rfl).symm.trans hf) |>.symm
      obtain rfl : fn = Tryd.f4 := (Option.some.inj (Tryd.func4.symm.trans hfn)).symm
      exact ⟨by kernel_rfl, fun j t ht => by
        rw [Tryd.params4] at ht
        have hm : t ∈ [9] := by simpa using Array.mem_of_getElem? ht
        have hall : ([9].all fun u => !Tryd.prog.wantsStandIn u) = true := by kernel_rfl
        exact (show Tryd.prog.wantsStandIn t = false by simpa using List.all_eq_true.1 hall t hm)⟩)
    (by kernel_rfl)
#print axioms proved
end Go.Proofs.YtiglhmdiiajmhaaDoor.leapReads

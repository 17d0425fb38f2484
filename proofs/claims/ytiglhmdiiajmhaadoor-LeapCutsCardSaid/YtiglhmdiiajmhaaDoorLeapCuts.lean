/-
  Package leap: a table's text without its last line, or with one of its lines twice, is none. Proved of the program's and the document's text. Condition: the library's tables lie as the program's text lays them (the card ties them).
  The walk is the prover's own; the frame of the row's step follows the kit's template.
-/
import Derived.Test.YtiglhmdiiajmhaaDoorRows
import Derived.Test.YtiglhmdiiajmhaaDoorLawKit
import Derived.Test.YtiglhmdiiajmhaaDoorCards
import Derived.Test.YtiglhmdiiajmhaaDoorTie
import Derived.SevenTiedAt
import Derived.Test.YtiglhmdiiajmhaaDoorFlat
import Derived.Test.YtiglhmdiiajmhaaDoorFlatS
import Derived.Test.YtiglhmdiiajmhaaDoorLpY
import Derived.Test.YtiglhmdiiajmhaaDoorLpP
import Derived.Test.YtiglhmdiiajmhaaDoorLpO
import Derived.Test.YtiglhmdiiajmhaaDoorLpT
import Derived.Test.YtiglhmdiiajmhaaDoorLpZ
namespace Go.Proofs.YtiglhmdiiajmhaaDoor.leapCuts
open Go.ChangeShapes Go.WideShapes Go.ChangeAt Go.RowKit Go.ChangeMaps Go.WideElems
set_option linter.unusedVariables false

theorem cells0 {W : World} {vs : List Value} (h : FitS W [.p (.int .i64), .p (.int .i64), .p (.int .i64), .rows [.int .i64, .int .i64]] vs) : ∃ (s0 : Int) (s1 : Int) (s2 : Int) (A3 : Option Addr) (n3 c3 : Nat) (f3 : Nat → List Value), vs = [.int .i64 s0, .int .i64 s1, .int .i64 s2, .slice A3 n3 c3] ∧ (Lit.int .i64 s0).wf = true ∧ (Lit.int .i64 s1).wf = true ∧ (Lit.int .i64 s2).wf = true ∧ FlatRow W [.int .i64, .int .i64] A3 n3 c3 f3 := by
  match vs, h.length, h with
  | [y0, y1, y2, y3], _, h =>
    obtain ⟨⟨x0, rfl, h0⟩, ⟨x1, rfl, h1⟩, ⟨x2, rfl, h2⟩, ⟨A3, n3, c3, x3, rfl, h3⟩, _⟩ := h
    exact ⟨x0, x1, x2, A3, n3, c3, x3, rfl, h0, h1, h2, h3⟩
theorem own : ownKnob Tryd.prog.godebug = none := by kernel_rfl
set_option linter.unusedSimpArgs false
theorem cells4 {w0 w : World} {t : TypeId} {a b c d : Value} (h : Box w0 t #[a, b, c, d] w) : w.cell? ⟨w0.heap.size, 0, none⟩ = some a ∧ w.cell? ⟨w0.heap.size, 1, none⟩ = some b ∧ w.cell? ⟨w0.heap.size, 2, none⟩ = some c ∧ w.cell? ⟨w0.heap.size, 3, none⟩ = some d :=
  ⟨h.holds.cell 0, h.holds.cell 1, h.holds.cell 2, h.holds.cell 3⟩
theorem read_error {s : ByteArray} {n : Nat} {c : Int} {w w' : World} {e : Ending} (hp : parseR s = .error (n, c)) (h : ReadPost s w e w') : e = .returned (.tuple #[.pointer none, .int .i64 (n : Int), .int .i64 c]) ∧ Below w.heap.size w w' := by
  obtain ⟨h1 | h1, hb⟩ := h
  · obtain ⟨T, q, hq, _⟩ := h1
    rw [hp] at hq
    cases hq
  · obtain ⟨n', c', hq, he⟩ := h1
    rw [hp] at hq
    simp only [Except.error.injEq, Prod.mk.injEq] at hq
    obtain ⟨rfl, rfl⟩ := hq
    exact ⟨he, hb⟩
theorem take_len (ls : List ByteArray) (k : Nat) : (linesL (ls.take k)).length ≤ (linesL ls).length := by
  conv => rhs; rw [← List.take_append_drop k ls, linesL_append, List.length_append]
  omega
theorem add_line {P x : ByteArray} {ls : List ByteArray} (h : P.data.toList = linesL ls) : (P ++ x ++ ⟨#[10]⟩).data.toList = linesL (ls ++ [x]) := by
  rw [app_list, app_list, h, linesL_append, linesL_cons]
  simp [linesL]
set_option maxRecDepth 100000 in
set_option maxHeartbeats 8000000 in
theorem walk (s0_0 : Int) (s0_1 : Int) (s0_2 : Int) (A0_3 : Option Addr) (n0_3 c0_3 : Nat) (f0_3 : Nat → List Value) (a1 : Int) (w : World) (w0_0 : (Lit.int .i64 s0_0).wf = true) (w0_1 : (Lit.int .i64 s0_1).wf = true) (w0_2 : (Lit.int .i64 s0_2).wf = true) (w0_3 : FlatRow w [.int .i64, .int .i64] A0_3 n0_3 c0_3 f0_3) (w1 : (Lit.int .i64 a1).wf = true) (hT : Tab w) (hM : Mt w) :
    Calls Tryd.prog 7 #[.agg #[.int .i64 s0_0, .int .i64 s0_1, .int .i64 s0_2, .slice A0_3 n0_3 c0_3], .int .i64 a1] w fun e w' => e = .returned (.bool true) ∧ Below w.heap.size w w' := by
  obtain ⟨L, hrow, hfits⟩ := prow_of_flat w0_3
  have HM := Lib.hid hM
  have HT := Lib.hid hT
  have HX0 := Lib.hid (Box.start w 24 #[.int .i64 s0_0, .int .i64 s0_1, .int .i64 s0_2, .slice A0_3 n0_3 c0_3])
  have hnl := hrow.len
  clear hM hT
  by_cases h64 : 64 < n0_3
  · have d0 : decide ((64 : Int) < (n0_3 : Int)) = true := decide_eq_true (by omega)
    go_enter Tryd.func7, Tryd.ntmps7
    go_wp2_with (first
      | (go_at_call 8; refine (alive_yes _ (HM.out.below HX0.out.below)).mono ?_; rintro e w1 ⟨rfl, hb1⟩; have HX := Lib.hid (HX0.out.next hb1); obtain ⟨c0, c1, c2, c3⟩ := cells4 HX.out; clear hb1)
      | (go_at_call 9; refine (HMD.out _ HX.out.below).mono ?_; intro e w2 hp; obtain ⟨hp, hb2⟩ := hp; obtain ⟨q, rfl, hrt⟩ := HMY.out w2 _ _ hp; clear hp; have HRT := Lib.hid hrt; have HX := Lib.hid (HX.out.next hb2); clear c0 c1 c2 c3; obtain ⟨c0, c1, c2, c3⟩ := cells4 HX.out; clear hb2 hrt)
      | (go_at_call 9; refine (HMD.out _ HX.out.below).mono ?_; intro e w2 hp; obtain ⟨hp, hb2⟩ := hp; obtain rfl := HMN.out w2 _ _ hp; clear hp; have HX := Lib.hid (HX.out.next hb2); clear c0 c1 c2 c3; obtain ⟨c0, c1, c2, c3⟩ := cells4 HX.out; clear hb2)
      | (go_at_call 14; refine (HTX.out _ _ HRT.out HX.out.below).mono ?_; rintro e w3 ⟨rfl, hb3⟩; have HRT := Lib.hid ((HRT.out.below hb3).mono hb3.size); have HX := Lib.hid (HX.out.next hb3); clear c0 c1 c2 c3; obtain ⟨c0, c1, c2, c3⟩ := cells4 HX.out; clear hb3)
      | (go_at_call 21; refine (HPC.out _).mono ?_; rintro e w4 ⟨AP, cp, rfl, hown, hb3⟩; have HOwn := Lib.hid hown; have HRT := Lib.hid ((HRT.out.below hb3).mono hb3.size); have HX := Lib.hid (HX.out.next hb3); clear c0 c1 c2 c3; obtain ⟨c0, c1, c2, c3⟩ := cells4 HX.out; clear hb3 hown))
    go_ret
    exact ⟨rfl, HX.out.below⟩
  have d0 : decide ((64 : Int) < (n0_3 : Int)) = false := decide_eq_false (by omega)
  have HN := Lib.hid (show n0_3 ≤ 1000 by omega)
  have HR := Lib.hid hrow
  have HMD := Lib.hid (fun W (hW : Below w.heap.size w W) => made_any W s0_0 s0_1 s0_2 A0_3 n0_3 c0_3 L (HR.out.below hW) HN.out)
  unfold MadePost at HMD
  obtain ⟨F, hF⟩ : ∃ F, faultT s0_0 s0_1 s0_2 L = F := ⟨_, rfl⟩
  rw [hF] at HMD
  by_cases h0 : F = 0
  · subst h0
    obtain ⟨hf, ho, hl, hord⟩ := fault_few hF
    have HMY := Lib.hid (show ∀ (W : World) (e : Ending) (w' : World), (((0 : Int) = 0 ∧ ∃ q, e = .returned (.tuple #[.pointer (some ⟨q, 0, none⟩), .int .i64 0]) ∧ Rt w' w'.heap.size q ⟨s0_0, s0_1, s0_2, L⟩) ∨ (¬ (0 : Int) = 0 ∧ e = .returned (.tuple #[.pointer none, .int .i64 0]))) → ∃ q, e = .returned (.tuple #[.pointer (some ⟨q, 0, none⟩), .int .i64 0]) ∧ Rt w' w'.heap.size q ⟨s0_0, s0_1, s0_2, L⟩ from fun W e w' h => h.elim (fun h => h.2) (fun h => absurd rfl h.1))
    obtain ⟨T, hTT⟩ : ∃ T : TB, (⟨s0_0, s0_1, s0_2, L⟩ : TB) = T := ⟨_, rfl⟩
    have hTl : T.lp.length = n0_3 := by rw [← hTT]; exact hnl
    have hd : Told T := by subst hTT; exact ⟨hf, ho, hl, hord⟩
    simp only [hTT] at HMY HMD
    have HTX := Lib.hid (fun W q (h : Rt W W.heap.size q T) (hW : Below w.heap.size w W) => text_some W q T h (HT.out.below hW) hd.fine (fun e he => hd.day he))
    have hts := textT_size hd
    have htp := text_pcs hd
    have htl := text_lines T
    have hlen := tells_len T
    have HCP := Lib.hid (fun (s : ByteArray) => cut_parse hd (s := s))
    have HTP := Lib.hid (fun (s : ByteArray) (p : Nat) (hp : p < T.lp.length + 2) => twice_parse hd p hp (s := s))
    obtain ⟨TX, hTX⟩ : ∃ TX, textT T = TX := ⟨_, rfl⟩
    rw [hTX] at HTX hts htp htl
    have hLL := linesL_size htl
    obtain ⟨M, hMM⟩ : ∃ M, n0_3 + 2 = M := ⟨_, rfl⟩
    obtain ⟨K, hKK⟩ : ∃ K, M + 1 = K := ⟨_, rfl⟩
    rw [hTl, hMM] at hlen
    rw [hTl, hMM] at HTP HCP
    have hk3 : (tellsL T ++ [(⟨#[]⟩ : ByteArray)]).length = K := by rw [List.length_append, hlen]; exact hKK
    have HPC := Lib.hid (show ∀ W, Calls Tryd.prog 21 #[.string TX, .int .u8 10] W fun e w' => ∃ A cap, e = .returned (.slice A K cap) ∧ w'.ownsRow W.heap.size 9 1 (.slice A K cap) K (sts (tellsL T ++ [⟨#[]⟩])) ∧ Below W.heap.size W w' from fun W => by
      have := pieces_any TX 10 W (by omega)
      rw [htp, hk3] at this
      exact this)
    obtain ⟨LL, hLLn⟩ : ∃ LL, tellsL T = LL := ⟨_, rfl⟩
    rw [hLLn] at HPC hLL hlen HCP HTP
    have HLL := Lib.hid hLL
    have HLen := Lib.hid hlen
    have HTS := Lib.hid hts
    have ek : IntKind.i64.wrap ((K : Int) - 1) = (M : Int) := by rw [IntWalk.i64_in _ (by omega)]; omega
    have em : IntKind.i64.wrap ((n0_3 : Int) + 2) = (M : Int) := by rw [IntWalk.i64_in _ (by omega)]; omega
    have hmm : ((M : Int) == (M : Int)) = true := beq_self_eq_true _
    have hmn : ((M : Int) != (M : Int)) = false := by simp
    clear hf ho hl hord hd htl hts htp hLL hLLn hTX hF hTT hfits hrow hlen hk3
    by_cases ha : a1 < 0
    · have da : decide (a1 < 0) = true := decide_eq_true ha
      clear ha
      go_enter Tryd.func7, Tryd.ntmps7
      go_wp2_with (first
        | (go_at_call 8; refine (alive_yes _ (HM.out.below HX0.out.below)).mono ?_; rintro e w1 ⟨rfl, hb1⟩; have HX := Lib.hid (HX0.out.next hb1); obtain ⟨c0, c1, c2, c3⟩ := cells4 HX.out; clear hb1)
        | (go_at_call 9; refine (HMD.out _ HX.out.below).mono ?_; intro e w2 hp; obtain ⟨hp, hb2⟩ := hp; obtain ⟨q, rfl, hrt⟩ := HMY.out w2 _ _ hp; clear hp; have HRT := Lib.hid hrt; have HX := Lib.hid (HX.out.next hb2); clear c0 c1 c2 c3; obtain ⟨c0, c1, c2, c3⟩ := cells4 HX.out; clear hb2 hrt)
        | (go_at_call 9; refine (HMD.out _ HX.out.below).mono ?_; intro e w2 hp; obtain ⟨hp, hb2⟩ := hp; obtain rfl := HMN.out w2 _ _ hp; clear hp; have HX := Lib.hid (HX.out.next hb2); clear c0 c1 c2 c3; obtain ⟨c0, c1, c2, c3⟩ := cells4 HX.out; clear hb2)
        | (go_at_call 14; refine (HTX.out _ _ HRT.out HX.out.below).mono ?_; rintro e w3 ⟨rfl, hb3⟩; have HRT := Lib.hid ((HRT.out.below hb3).mono hb3.size); have HX := Lib.hid (HX.out.next hb3); clear c0 c1 c2 c3; obtain ⟨c0, c1, c2, c3⟩ := cells4 HX.out; clear hb3)
        | (go_at_call 21; refine (HPC.out _).mono ?_; rintro e w4 ⟨AP, cp, rfl, hown, hb3⟩; have HOwn := Lib.hid hown; have HRT := Lib.hid ((HRT.out.below hb3).mono hb3.size); have HX := Lib.hid (HX.out.next hb3); clear c0 c1 c2 c3; obtain ⟨c0, c1, c2, c3⟩ := cells4 HX.out; clear hb3 hown))
      go_ret
      exact ⟨rfl, HX.out.below⟩
    have da : decide (a1 < 0) = false := decide_eq_false ha
    by_cases hb : (M : Int) ≤ a1
    · have db : decide ((M : Int) ≤ a1) = true := decide_eq_true hb
      clear ha hb
      go_enter Tryd.func7, Tryd.ntmps7
      go_wp2_with (first
        | (go_at_call 8; refine (alive_yes _ (HM.out.below HX0.out.below)).mono ?_; rintro e w1 ⟨rfl, hb1⟩; have HX := Lib.hid (HX0.out.next hb1); obtain ⟨c0, c1, c2, c3⟩ := cells4 HX.out; clear hb1)
        | (go_at_call 9; refine (HMD.out _ HX.out.below).mono ?_; intro e w2 hp; obtain ⟨hp, hb2⟩ := hp; obtain ⟨q, rfl, hrt⟩ := HMY.out w2 _ _ hp; clear hp; have HRT := Lib.hid hrt; have HX := Lib.hid (HX.out.next hb2); clear c0 c1 c2 c3; obtain ⟨c0, c1, c2, c3⟩ := cells4 HX.out; clear hb2 hrt)
        | (go_at_call 9; refine (HMD.out _ HX.out.below).mono ?_; intro e w2 hp; obtain ⟨hp, hb2⟩ := hp; obtain rfl := HMN.out w2 _ _ hp; clear hp; have HX := Lib.hid (HX.out.next hb2); clear c0 c1 c2 c3; obtain ⟨c0, c1, c2, c3⟩ := cells4 HX.out; clear hb2)
        | (go_at_call 14; refine (HTX.out _ _ HRT.out HX.out.below).mono ?_; rintro e w3 ⟨rfl, hb3⟩; have HRT := Lib.hid ((HRT.out.below hb3).mono hb3.size); have HX := Lib.hid (HX.out.next hb3); clear c0 c1 c2 c3; obtain ⟨c0, c1, c2, c3⟩ := cells4 HX.out; clear hb3)
        | (go_at_call 21; refine (HPC.out _).mono ?_; rintro e w4 ⟨AP, cp, rfl, hown, hb3⟩; have HOwn := Lib.hid hown; have HRT := Lib.hid ((HRT.out.below hb3).mono hb3.size); have HX := Lib.hid (HX.out.next hb3); clear c0 c1 c2 c3; obtain ⟨c0, c1, c2, c3⟩ := cells4 HX.out; clear hb3 hown))
      go_ret
      exact ⟨rfl, HX.out.below⟩
    have db : decide ((M : Int) ≤ a1) = false := decide_eq_false hb
    obtain ⟨p, hp⟩ : ∃ p : Nat, a1 = (p : Int) := ⟨a1.toNat, by omega⟩
    have HPM := Lib.hid (show p < M by omega)
    have HP := Lib.hid hp
    have HMS := Lib.hid (show M ≤ 66 by omega)
    have HKK := Lib.hid hKK
    clear ha hb hp hMM hKK
    go_enter Tryd.func7, Tryd.ntmps7
    go_wp2_with (first
      | (go_at_call 8; refine (alive_yes _ (HM.out.below HX0.out.below)).mono ?_; rintro e w1 ⟨rfl, hb1⟩; have HX := Lib.hid (HX0.out.next hb1); obtain ⟨c0, c1, c2, c3⟩ := cells4 HX.out; clear hb1)
      | (go_at_call 9; refine (HMD.out _ HX.out.below).mono ?_; intro e w2 hp; obtain ⟨hp, hb2⟩ := hp; obtain ⟨q, rfl, hrt⟩ := HMY.out w2 _ _ hp; clear hp; have HRT := Lib.hid hrt; have HX := Lib.hid (HX.out.next hb2); clear c0 c1 c2 c3; obtain ⟨c0, c1, c2, c3⟩ := cells4 HX.out; clear hb2 hrt)
      | (go_at_call 9; refine (HMD.out _ HX.out.below).mono ?_; intro e w2 hp; obtain ⟨hp, hb2⟩ := hp; obtain rfl := HMN.out w2 _ _ hp; clear hp; have HX := Lib.hid (HX.out.next hb2); clear c0 c1 c2 c3; obtain ⟨c0, c1, c2, c3⟩ := cells4 HX.out; clear hb2)
      | (go_at_call 14; refine (HTX.out _ _ HRT.out HX.out.below).mono ?_; rintro e w3 ⟨rfl, hb3⟩; have HRT := Lib.hid ((HRT.out.below hb3).mono hb3.size); have HX := Lib.hid (HX.out.next hb3); clear c0 c1 c2 c3; obtain ⟨c0, c1, c2, c3⟩ := cells4 HX.out; clear hb3)
      | (go_at_call 21; refine (HPC.out _).mono ?_; rintro e w4 ⟨AP, cp, rfl, hown, hb3⟩; have HOwn := Lib.hid hown; have HRT := Lib.hid ((HRT.out.below hb3).mono hb3.size); have HX := Lib.hid (HX.out.next hb3); clear c0 c1 c2 c3; obtain ⟨c0, c1, c2, c3⟩ := cells4 HX.out; clear hb3 hown))
    clear c0 c1 c2 c3 da db d0 ek em hmm hmn
    obtain ⟨M1, hM1⟩ : ∃ M1, M = M1 + 1 := ⟨M - 1, by have := HMS.out; have := HPM.out; omega⟩
    have HM1 := Lib.hid hM1
    clear hM1
    go_loopw [9, 10, 11] (fun vc vd vi wr => ∃ (k : Nat) (C D : ByteArray), k ≤ M ∧ vi = .int .i64 (k : Int) ∧ vc = .string C ∧ vd = .string D ∧ C.data.toList = linesL (LL.take (min k M1)) ∧ D.data.toList = linesL (twL p 0 (LL.take k)) ∧ wr = w4) (fun _ _ i _ => M - (intOf i).toNat)
    case atStart => exact ⟨0, ⟨#[]⟩, ⟨#[]⟩, Nat.zero_le _, rfl, rfl, rfl, by simp [linesL], by simp [linesL, twL], rfl⟩
    case round =>
      obtain ⟨k, C, D, hk, rfl, rfl, rfl, hC, hD, hw⟩ := hrel
      replace hw := hw.symm
      subst hw
      have hKK := HKK.out
      have hMS := HMS.out
      have hM1 := HM1.out
      have hlen := HLen.out
      have hall : (linesL LL).length ≤ 1300 := by rw [← HLL.out]; exact HTS.out
      by_cases hlt : k < M
      · obtain ⟨x, hx⟩ : ∃ x, LL[k]? = some x := ⟨_, List.getElem?_eq_getElem (by omega)⟩
        have hx2 : (LL ++ [(⟨#[]⟩ : ByteArray)])[k]? = some x := by rw [List.getElem?_append_left (by omega)]; exact hx
        obtain ⟨b, rfl, _, hcap, hcm, hcell⟩ := own_text HOwn.out hx2
        have hnext : LL.take (k + 1) = LL.take k ++ [x] := by
          obtain ⟨hk', e'⟩ := List.getElem?_eq_some_iff.1 hx
          rw [List.take_succ_eq_append_getElem hk', e']
        have htk : (LL.take k).length = k := by rw [List.length_take]; omega
        have hcs : C.size ≤ 1300 := by rw [linesL_size hC]; exact Nat.le_trans (take_len _ _) hall
        have hds : D.size ≤ 2601 := by
          rw [linesL_size hD]
          have h1 := twL_len p 1300 (LL.take k) 0 (fun l hl => Nat.le_trans (mem_lines (List.mem_of_mem_take hl)) hall)
          have h2 := take_len LL k
          split at h1 <;> omega
        have hxs : x.size ≤ 1300 := by rw [← size_list]; exact Nat.le_trans (mem_lines (List.mem_of_getElem? hx)) hall
        have hki : (k : Int) < (K : Int) := by omega
        have hkm : (k : Int) < (M : Int) := by omega
        have ew := IntWalk.i64_in ((k : Int) + 1) (by omega)
        have e1 : IntKind.i64.wrap ((M : Int) - 1) = (M1 : Int) := by rw [IntWalk.i64_in _ (by omega)]; omega
        have HC1 := Lib.hid (show k < M1 → (C ++ x ++ ⟨#[10]⟩).data.toList = linesL (LL.take (min (k + 1) M1)) from fun h => by
          rw [Nat.min_eq_left (by omega), hnext]
          exact add_line (by rw [hC, Nat.min_eq_left (by omega)]))
        have HC2 := Lib.hid (show ¬ k < M1 → C.data.toList = linesL (LL.take (min (k + 1) M1)) from fun h => by
          rw [hC, Nat.min_eq_right (by omega), Nat.min_eq_right (by omega)])
        have hts := twL_snoc p (LL.take k) 0 x
        rw [htk, Nat.zero_add, ← hnext] at hts
        have HD1 := Lib.hid (show k = p → (D ++ x ++ ⟨#[10]⟩ ++ x ++ ⟨#[10]⟩).data.toList = linesL (twL p 0 (LL.take (k + 1))) from fun h => by
          rw [hts, if_pos h, show twL p 0 (LL.take k) ++ [x, x] = (twL p 0 (LL.take k) ++ [x]) ++ [x] by simp]
          exact add_line (add_line hD))
        have HD2 := Lib.hid (show ¬ k = p → (D ++ x ++ ⟨#[10]⟩).data.toList = linesL (twL p 0 (LL.take (k + 1))) from fun h => by
          rw [hts, if_neg h]
          exact add_line hD)
        obtain ⟨cs, hcs'⟩ : ∃ m, C.size = m := ⟨_, rfl⟩
        obtain ⟨ds, hds'⟩ : ∃ m, D.size = m := ⟨_, rfl⟩
        obtain ⟨xs, hxs'⟩ : ∃ m, x.size = m := ⟨_, rfl⟩
        rw [hcs'] at hcs
        rw [hds'] at hds
        rw [hxs'] at hxs
        have q1 : ¬ 9223372036854775807 < cs + xs := by omega
        have q2 : ¬ 9223372036854775807 < cs + xs + 1 := by omega
        have q3 : ¬ 9223372036854775807 < ds + xs := by omega
        have q4 : ¬ 9223372036854775807 < ds + xs + 1 := by omega
        have q5 : ¬ 9223372036854775807 < ds + xs + 1 + xs := by omega
        have q6 : ¬ 9223372036854775807 < ds + xs + 1 + xs + 1 := by omega
        have hpe : k = p → ((k : Int) == a1) = true := fun h => by rw [HP.out, h]; exact beq_self_eq_true _
        have hpn : ¬ k = p → ((k : Int) == a1) = false := fun h => by rw [HP.out, beq_eq_false_iff_ne]; omega
        have HKL := Lib.hid (show k + 1 ≤ M by omega)
        clear hx hx2 hnext htk hC hD hts hall hlen hcs hds hxs hKK hMS
        by_cases h1 : k < M1
        · have d1 : (k : Int) < (M1 : Int) := by omega
          have d1n : decide (k < M1) = true := decide_eq_true h1
          have HCN := Lib.hid (HC1.out h1)
          by_cases h2 : k = p
          · have d2 := hpe h2
            have HDN := Lib.hid (HD1.out h2)
            clear h1 h2 hpe hpn hM1 hk
            go_wp2
            go_roundw
            case rel => exact ⟨k + 1, _, _, HKL.out, by go_num, rfl, rfl, HCN.out, HDN.out, trivial⟩
            case measure => simp [intOf]; omega
          · have d2 := hpn h2
            have HDN := Lib.hid (HD2.out h2)
            clear h1 h2 hpe hpn hM1 hk
            go_wp2
            go_roundw
            case rel => exact ⟨k + 1, _, _, HKL.out, by go_num, rfl, rfl, HCN.out, HDN.out, trivial⟩
            case measure => simp [intOf]; omega
        · have d1 : decide ((k : Int) < (M1 : Int)) = false := decide_eq_false (by omega)
          have d1n : decide (k < M1) = false := decide_eq_false h1
          have HCN := Lib.hid (HC2.out h1)
          by_cases h2 : k = p
          · have d2 := hpe h2
            have HDN := Lib.hid (HD1.out h2)
            clear h1 h2 hpe hpn hM1 hk
            go_wp2
            go_roundw
            case rel => exact ⟨k + 1, _, _, HKL.out, by go_num, rfl, rfl, HCN.out, HDN.out, trivial⟩
            case measure => simp [intOf]; omega
          · have d2 := hpn h2
            have HDN := Lib.hid (HD2.out h2)
            clear h1 h2 hpe hpn hM1 hk
            go_wp2
            go_roundw
            case rel => exact ⟨k + 1, _, _, HKL.out, by go_num, rfl, rfl, HCN.out, HDN.out, trivial⟩
            case measure => simp [intOf]; omega
      · have hkM : k = M := by omega
        subst hkM
        have hdl : LL.take M1 = LL.dropLast := by rw [List.dropLast_eq_take, hlen, hM1]; rfl
        rw [Nat.min_eq_right (by omega), hdl] at hC
        rw [List.take_of_length_le (by omega)] at hD
        have hpc := HCP.out C hC
        obtain ⟨c, hpd, hc⟩ := HTP.out D p HPM.out hD
        have HRC := Lib.hid (fun W (hW : Mt W) => (lread_any C W hW).mono fun e w' h => read_error hpc h)
        have HRD := Lib.hid (fun W (hW : Mt W) => (lread_any D W hW).mono fun e w' h => read_error hpd h)
        obtain ⟨P2, hP2⟩ : ∃ P2 : Int, ((p + 2 : Nat) : Int) = P2 := ⟨_, rfl⟩
        rw [hP2] at HRD
        have e2 : IntKind.i64.wrap (a1 + 2) = P2 := by rw [IntWalk.i64_in _ (by rw [HP.out]; have := HPM.out; omega), HP.out]; omega
        have b1 : ((k : Int) == (k : Int)) = true := beq_self_eq_true _
        have b2 : (P2 == P2) = true := beq_self_eq_true _
        have hltI : decide ((k : Int) < (k : Int)) = false := decide_eq_false (by omega)
        have HW0 := Lib.hid (HM.out.below HX.out.below)
        clear hC hD hdl hpc hpd hall hlen hKK hMS hM1 hP2 hlt hk
        rcases hc with rfl | rfl | rfl
        · go_wp2_with (first
            | (go_at_call 19; with_reducible refine (HRC.out _ HW0.out).mono ?_; rintro e w5 ⟨rfl, hb5⟩; have HX := Lib.hid (HX.out.next hb5); clear hb5)
            | (go_at_call 19; with_reducible refine (HRD.out _ (HM.out.below HX.out.below)).mono ?_; rintro e w6 ⟨rfl, hb6⟩; have HX := Lib.hid (HX.out.next hb6); clear hb6))
          go_ret
          exact ⟨rfl, HX.out.below⟩
        · go_wp2_with (first
            | (go_at_call 19; with_reducible refine (HRC.out _ HW0.out).mono ?_; rintro e w5 ⟨rfl, hb5⟩; have HX := Lib.hid (HX.out.next hb5); clear hb5)
            | (go_at_call 19; with_reducible refine (HRD.out _ (HM.out.below HX.out.below)).mono ?_; rintro e w6 ⟨rfl, hb6⟩; have HX := Lib.hid (HX.out.next hb6); clear hb6))
          go_ret
          exact ⟨rfl, HX.out.below⟩
        · go_wp2_with (first
            | (go_at_call 19; with_reducible refine (HRC.out _ HW0.out).mono ?_; rintro e w5 ⟨rfl, hb5⟩; have HX := Lib.hid (HX.out.next hb5); clear hb5)
            | (go_at_call 19; with_reducible refine (HRD.out _ (HM.out.below HX.out.below)).mono ?_; rintro e w6 ⟨rfl, hb6⟩; have HX := Lib.hid (HX.out.next hb6); clear hb6))
          go_ret
          exact ⟨rfl, HX.out.below⟩
  · have HMN := Lib.hid (fun (W : World) (e : Ending) (w' : World) (h : ((F = 0 ∧ ∃ q, e = .returned (.tuple #[.pointer (some ⟨q, 0, none⟩), .int .i64 0]) ∧ Rt w' w'.heap.size q ⟨s0_0, s0_1, s0_2, L⟩) ∨ (¬ F = 0 ∧ e = .returned (.tuple #[.pointer none, .int .i64 F])))) => (h.resolve_left (fun h => h0 h.1)).2)
    have hne : (F != 0) = true := by simp [h0]
    clear hF h0 h64 hnl hfits hrow
    go_enter Tryd.func7, Tryd.ntmps7
    go_wp2_with (first
      | (go_at_call 8; refine (alive_yes _ (HM.out.below HX0.out.below)).mono ?_; rintro e w1 ⟨rfl, hb1⟩; have HX := Lib.hid (HX0.out.next hb1); obtain ⟨c0, c1, c2, c3⟩ := cells4 HX.out; clear hb1)
      | (go_at_call 9; refine (HMD.out _ HX.out.below).mono ?_; intro e w2 hp; obtain ⟨hp, hb2⟩ := hp; obtain ⟨q, rfl, hrt⟩ := HMY.out w2 _ _ hp; clear hp; have HRT := Lib.hid hrt; have HX := Lib.hid (HX.out.next hb2); clear c0 c1 c2 c3; obtain ⟨c0, c1, c2, c3⟩ := cells4 HX.out; clear hb2 hrt)
      | (go_at_call 9; refine (HMD.out _ HX.out.below).mono ?_; intro e w2 hp; obtain ⟨hp, hb2⟩ := hp; obtain rfl := HMN.out w2 _ _ hp; clear hp; have HX := Lib.hid (HX.out.next hb2); clear c0 c1 c2 c3; obtain ⟨c0, c1, c2, c3⟩ := cells4 HX.out; clear hb2)
      | (go_at_call 14; refine (HTX.out _ _ HRT.out HX.out.below).mono ?_; rintro e w3 ⟨rfl, hb3⟩; have HRT := Lib.hid ((HRT.out.below hb3).mono hb3.size); have HX := Lib.hid (HX.out.next hb3); clear c0 c1 c2 c3; obtain ⟨c0, c1, c2, c3⟩ := cells4 HX.out; clear hb3)
      | (go_at_call 21; refine (HPC.out _).mono ?_; rintro e w4 ⟨AP, cp, rfl, hown, hb3⟩; have HOwn := Lib.hid hown; have HRT := Lib.hid ((HRT.out.below hb3).mono hb3.size); have HX := Lib.hid (HX.out.next hb3); clear c0 c1 c2 c3; obtain ⟨c0, c1, c2, c3⟩ := cells4 HX.out; clear hb3 hown))
    go_ret
    exact ⟨rfl, HX.out.below⟩

set_option maxRecDepth 100000 in
theorem lifted (os : Os) (started : os.Started) (H : Type) (enc : TypeId × Value → H) :
    ReturnsInHanded {} Tryd.checked os 7 .any (fun w args => (Rows.leapCutsSpec.pre enc Tryd.prog Tryd.f7 [] false w args ∧ laidMetH Tryd.prog laidTab w) ∧ sizedMet enc Tryd.prog Tryd.f7 (OpenSpec.ofChange Rows.leapCutsSpec) false w args) (Rows.leapCutsSpec.post enc Tryd.prog Tryd.f7 false true false false) := by
  refine returnsInHanded_and_shaped (C := Tryd.checked) (X := fun w _ => laidMetH Tryd.prog laidTab w) (fun _ _ _ hh h => h.of_heap hh) own started (by kernel_rfl) Tryd.func7
    (ChangeSpec.witness_shaped (enc := enc) (C := Tryd.checked) (os := os) (X := fun w _ => laidMetH Tryd.prog laidTab w) false (World.laidAll Tryd.prog os laidTab) #[.agg #[.int .i64 0, .int .i64 0, .int .i64 0, .slice none 0 0], .int .i64 0] 8 (World.laidAll_os _ _ _) (World.shaped_of_ZipB (by kernel_rfl) (by kernel_rfl)) (by kernel_rfl) (by kernel_rfl) (by kernel_rfl) (door_met os _)) ?_
  intro W base args ds gs before hval0 hW hL hsh
  have hval : ∀ (j : Nat) t v, Tryd.f7.params[j]? = some t → args[j]? = some v → Value.okWide Tryd.prog W .any base t v := hval0
  have hW' := hW
  obtain ⟨p, q, hA0, hV, rfl, hfz, hnd⟩ := hW
  have hA : DataW.TrodAll enc Tryd.prog W 0 (fun _ => true) true Tryd.f7.params.toList args.toList ds p := hA0
  have hAk := hA
  rw [Tryd.params7] at hA hval
  obtain ⟨v0, vs0, d0, ds0, p0, q0, hargs, rfl, hp, h0, r0⟩ := trodAll_cons hA
  obtain ⟨v1, vs1, d1, ds1, p1, q1, rfl, rfl, rfl, h1, r1⟩ := trodAll_cons r0
  obtain ⟨rfl, rfl, rfl⟩ := trodAll_nil r1
  obtain rfl : args = #[v0, v1] := by cases args; simp_all
  obtain ⟨rfl, rfl⟩ := trodVars_none hV
  clear hA0 hval0 hargs
  simp only [List.append_nil] at hW'
  have hend : ∀ W' : World, Below W.heap.size W W' → Rows.leapCutsSpec.post enc Tryd.prog Tryd.f7 false true false false W #[v0, v1] (.bool true) W' := fun W' hb =>
    law_post (tb := 4) hW' hAk rfl (by kernel_rfl) (by kernel_rfl) (by kernel_rfl) Tryd.underlying4 rfl rfl rfl hb
  clear hW' hAk hp
  obtain ⟨vs0', rfl, hfit0⟩ := flatS_arg (ks := [.p (.int .i64), .p (.int .i64), .p (.int .i64), .rows [.int .i64, .int .i64]]) 9 Tryd.underlying24 (by kernel_rfl) (hval 0 24 v0 rfl rfl) h0
  obtain ⟨s0_0, s0_1, s0_2, A0_3, n0_3, c0_3, f0_3, rfl, w0_0, w0_1, w0_2, w0_3⟩ := cells0 hfit0
  obtain ⟨a1, rfl, rfl, rfl, w1⟩ := open_int Tryd.underlying3 (hval 1 3 v1 rfl rfl) h1
  refine (walk s0_0 s0_1 s0_2 A0_3 n0_3 c0_3 f0_3 a1 W w0_0 w0_1 w0_2 w0_3 w1 (tab_of_laid hL) (mt_of_shaped hsh)).mono fun e W' ⟨he, hg⟩ => ?_
  subst he
  exact ⟨_, rfl, hend W' hg⟩

theorem over : Rows.leapCutsRow.holds Tryd.pinned (OpenSpec.ofChange Rows.leapCutsSpec) :=
  OpenClaim.holds_of_wide 7 Tryd.f7 rfl rfl rfl rfl rfl rfl rfl ⟨rfl, rfl, rfl, rfl, rfl⟩ rfl rfl rfl rfl rfl (by kernel_rfl) Tryd.func7 (by kernel_rfl)
    (of_decide_eq_true (by kernel_rfl)) (by unfold Func.isWrapper; first | (rw [if_pos (by decide +kernel)]; kernel_rfl) | (rw [if_neg (by decide +kernel)]; exact ⟨rfl, rfl⟩))
    (fun os started H enc _ => lifted os started H enc)

/-- THE STATEMENT: the tied card -/
theorem proved : Rows.LeapCutsCardSaid :=
  Claim7.holds_tied_plain_at .later [] [.data, .data, .data, .data, .pinned] true (true, "7c37e060eaa0f112e89e4d22143b27731f1469fff835db8b9bba8390e6494458") true
    over (fun _ h => by cases h) (by kernel_rfl) (fun _ h => by cases h) leapCuts_row_tie rfl ⟨rfl, rfl⟩ (by kernel_rfl) rfl
    (fun f fn hf hfn => by
      obtain rfl : f = 7 := Option.some.inj ((show Tryd.prog.funcNamed "angelus/angeluslaw21.LeapCuts" = some 7 by kernel_rfl).symm.trans hf) |>.symm
      obtain rfl : fn = Tryd.f7 := (Option.some.inj (Tryd.func7.symm.trans hfn)).symm
      exact ⟨by kernel_rfl, fun j t ht => by
        rw [Tryd.params7] at ht
        have hm : t ∈ [24, 3] := by simpa using Array.mem_of_getElem? ht
        have hall : ([24, 3].all fun u => !Tryd.prog.wantsStandIn u) = true := by kernel_rfl
        exact (show Tryd.prog.wantsStandIn t = false by simpa using List.all_eq_true.1 hall t hm)⟩)
    (by kernel_rfl)
#print axioms proved
end Go.Proofs.YtiglhmdiiajmhaaDoor.leapCuts

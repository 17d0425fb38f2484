/-
  Package leap: what is told as a text is read as it was, with lines between that are empty, or begin with #, too. Proved of the program's and the document's text. Condition: the library's tables lie as the program's text lays them (the card ties them).
  The walk is the prover's own; the frame of the row's step follows the kit's template.
-/
import Derived.Test.YtiglhmdiiajmhaaDoorRows
import Derived.Test.YtiglhmdiiajmhaaDoorLawKit
import Derived.Test.YtiglhmdiiajmhaaDoorCards
import Derived.Test.YtiglhmdiiajmhaaDoorTie
import Derived.SevenTiedAt
import Derived.Test.YtiglhmdiiajmhaaDoorFlat
import Derived.Test.YtiglhmdiiajmhaaDoorFlatS
import Derived.Test.YtiglhmdiiajmhaaDoorLpY
import Derived.Test.YtiglhmdiiajmhaaDoorLpP
import Derived.Test.YtiglhmdiiajmhaaDoorLpO
import Derived.Test.YtiglhmdiiajmhaaDoorLpT
import Derived.Test.YtiglhmdiiajmhaaDoorLpZ
import Derived.Test.YtiglhmdiiajmhaaDoorLpW
namespace Go.Proofs.YtiglhmdiiajmhaaDoor.leapBack
open Go.ChangeShapes Go.WideShapes Go.ChangeAt Go.RowKit Go.ChangeMaps Go.WideElems
set_option linter.unusedVariables false

theorem cells0 {W : World} {vs : List Value} (h : FitS W [.p (.int .i64), .p (.int .i64), .p (.int .i64), .rows [.int .i64, .int .i64]] vs) : ∃ (s0 : Int) (s1 : Int) (s2 : Int) (A3 : Option Addr) (n3 c3 : Nat) (f3 : Nat → List Value), vs = [.int .i64 s0, .int .i64 s1, .int .i64 s2, .slice A3 n3 c3] ∧ (Lit.int .i64 s0).wf = true ∧ (Lit.int .i64 s1).wf = true ∧ (Lit.int .i64 s2).wf = true ∧ FlatRow W [.int .i64, .int .i64] A3 n3 c3 f3 := by
  match vs, h.length, h with
  | [y0, y1, y2, y3], _, h =>
    obtain ⟨⟨x0, rfl, h0⟩, ⟨x1, rfl, h1⟩, ⟨x2, rfl, h2⟩, ⟨A3, n3, c3, x3, rfl, h3⟩, _⟩ := h
    exact ⟨x0, x1, x2, A3, n3, c3, x3, rfl, h0, h1, h2, h3⟩
theorem own : ownKnob Tryd.prog.godebug = none := by kernel_rfl
set_option linter.unusedSimpArgs false
theorem cells4 {w0 w : World} {t : TypeId} {a b c d : Value} (h : Box w0 t #[a, b, c, d] w) : w.cell? ⟨w0.heap.size, 0, none⟩ = some a ∧ w.cell? ⟨w0.heap.size, 1, none⟩ = some b ∧ w.cell? ⟨w0.heap.size, 2, none⟩ = some c ∧ w.cell? ⟨w0.heap.size, 3, none⟩ = some d :=
  ⟨h.holds.cell 0, h.holds.cell 1, h.holds.cell 2, h.holds.cell 3⟩
theorem read_ok {s : ByteArray} {T : TB} {w w' : World} {e : Ending} (hp : parseR s = .ok T) (hl : T.lp.length ≤ 1000) (h : ReadPost s w e w') : ∃ q, e = .returned (.tuple #[.pointer (some ⟨q, 0, none⟩), .int .i64 0, .int .i64 0]) ∧ Rt w' w'.heap.size q T ∧ Below w.heap.size w w' := by
  obtain ⟨h1 | h1, hb⟩ := h
  · obtain ⟨T', q, hq, he, ht⟩ := h1
    rw [hp] at hq
    simp only [Except.ok.injEq] at hq
    subst hq
    exact ⟨q, he, ht.rt hl (Nat.le_refl _), hb⟩
  · obtain ⟨n', c', hq, _⟩ := h1
    rw [hp] at hq
    cases hq
theorem take_len (ls : List ByteArray) (k : Nat) : (linesL (ls.take k)).length ≤ (linesL ls).length := by
  conv => rhs; rw [← List.take_append_drop k ls, linesL_append, List.length_append]
  omega
theorem add_line {P x : ByteArray} {ls : List ByteArray} (h : P.data.toList = linesL ls) : (P ++ x ++ ⟨#[10]⟩).data.toList = linesL (ls ++ [x]) := by
  rw [app_list, app_list, h, linesL_append, linesL_cons]
  simp [linesL]
theorem add_ins {P x : ByteArray} {ls : List ByteArray} (h : P.data.toList = linesL ls) : (P ++ ⟨#[10, 35, 32, 97, 32, 119, 111, 114, 100, 10]⟩ ++ x ++ ⟨#[10]⟩).data.toList = linesL (ls ++ [noneL, wordL, x]) := by
  rw [app_list, app_list, app_list, h, linesL_append]
  simp [linesL, noneL, wordL]
set_option maxRecDepth 100000 in
set_option maxHeartbeats 8000000 in
theorem walk (s0_0 : Int) (s0_1 : Int) (s0_2 : Int) (A0_3 : Option Addr) (n0_3 c0_3 : Nat) (f0_3 : Nat → List Value) (a1 : Int) (w : World) (w0_0 : (Lit.int .i64 s0_0).wf = true) (w0_1 : (Lit.int .i64 s0_1).wf = true) (w0_2 : (Lit.int .i64 s0_2).wf = true) (w0_3 : FlatRow w [.int .i64, .int .i64] A0_3 n0_3 c0_3 f0_3) (w1 : (Lit.int .i64 a1).wf = true) (hT : Tab w) (hM : Mt w) :
    Calls Tryd.prog 5 #[.agg #[.int .i64 s0_0, .int .i64 s0_1, .int .i64 s0_2, .slice A0_3 n0_3 c0_3], .int .i64 a1] w fun e w' => e = .returned (.bool true) ∧ Below w.heap.size w w' := by
  obtain ⟨L, hrow, hfits⟩ := prow_of_flat w0_3
  have HM := Lib.hid hM
  have HT := Lib.hid hT
  have HX0 := Lib.hid (Box.start w 24 #[.int .i64 s0_0, .int .i64 s0_1, .int .i64 s0_2, .slice A0_3 n0_3 c0_3])
  have hnl := hrow.len
  clear hM hT
  by_cases h64 : 64 < n0_3
  · have d0 : decide ((64 : Int) < (n0_3 : Int)) = true := decide_eq_true (by omega)
    go_enter Tryd.func5, Tryd.ntmps5
    go_wp2_with (first
      | (go_at_call 8; refine (alive_yes _ (HM.out.below HX0.out.below)).mono ?_; rintro e w1 ⟨rfl, hb1⟩; have HX := Lib.hid (HX0.out.next hb1); obtain ⟨c0, c1, c2, c3⟩ := cells4 HX.out; clear hb1)
      | (go_at_call 9; refine (HMD.out _ HX.out.below).mono ?_; intro e w2 hp; obtain ⟨hp, hb2⟩ := hp; obtain ⟨q, rfl, hrt⟩ := HMY.out w2 _ _ hp; clear hp; have HRT := Lib.hid hrt; have HX := Lib.hid (HX.out.next hb2); clear c0 c1 c2 c3; obtain ⟨c0, c1, c2, c3⟩ := cells4 HX.out; clear hb2 hrt)
      | (go_at_call 9; refine (HMD.out _ HX.out.below).mono ?_; intro e w2 hp; obtain ⟨hp, hb2⟩ := hp; obtain rfl := HMN.out w2 _ _ hp; clear hp; have HX := Lib.hid (HX.out.next hb2); clear c0 c1 c2 c3; obtain ⟨c0, c1, c2, c3⟩ := cells4 HX.out; clear hb2)
      | (go_at_call 14; refine (HTX.out _ _ HRT.out HX.out.below).mono ?_; rintro e w3 ⟨rfl, hb3⟩; have HRT := Lib.hid ((HRT.out.below hb3).mono hb3.size); have HX := Lib.hid (HX.out.next hb3); clear c0 c1 c2 c3; obtain ⟨c0, c1, c2, c3⟩ := cells4 HX.out; clear hb3)
      | (go_at_call 21; refine (HPC.out _).mono ?_; rintro e w5 ⟨AP, cp, rfl, hown, hb3⟩; have HOwn := Lib.hid hown; have HRA := Lib.hid ((HRA.out.below hb3).mono hb3.size); have HX := Lib.hid (HX.out.next hb3); clear c0 c1 c2 c3; obtain ⟨c0, c1, c2, c3⟩ := cells4 HX.out; clear hb3 hown)
      | (go_at_call 19; refine (HR1.out _ (HM.out.below HX.out.below)).mono ?_; rintro e w4 ⟨q1, rfl, hr1, hb3⟩; have HRA := Lib.hid hr1; have HX := Lib.hid (HX.out.next hb3); clear c0 c1 c2 c3; obtain ⟨c0, c1, c2, c3⟩ := cells4 HX.out; clear hb3 hr1))
    go_ret
    exact ⟨rfl, HX.out.below⟩
  have d0 : decide ((64 : Int) < (n0_3 : Int)) = false := decide_eq_false (by omega)
  have HN := Lib.hid (show n0_3 ≤ 1000 by omega)
  have HR := Lib.hid hrow
  have HMD := Lib.hid (fun W (hW : Below w.heap.size w W) => made_any W s0_0 s0_1 s0_2 A0_3 n0_3 c0_3 L (HR.out.below hW) HN.out)
  unfold MadePost at HMD
  obtain ⟨F, hF⟩ : ∃ F, faultT s0_0 s0_1 s0_2 L = F := ⟨_, rfl⟩
  rw [hF] at HMD
  by_cases h0 : F = 0
  · subst h0
    obtain ⟨hf, ho, hl, hord⟩ := fault_few hF
    have HMY := Lib.hid (show ∀ (W : World) (e : Ending) (w' : World), (((0 : Int) = 0 ∧ ∃ q, e = .returned (.tuple #[.pointer (some ⟨q, 0, none⟩), .int .i64 0]) ∧ Rt w' w'.heap.size q ⟨s0_0, s0_1, s0_2, L⟩) ∨ (¬ (0 : Int) = 0 ∧ e = .returned (.tuple #[.pointer none, .int .i64 0]))) → ∃ q, e = .returned (.tuple #[.pointer (some ⟨q, 0, none⟩), .int .i64 0]) ∧ Rt w' w'.heap.size q ⟨s0_0, s0_1, s0_2, L⟩ from fun W e w' h => h.elim (fun h => h.2) (fun h => absurd rfl h.1))
    obtain ⟨T, hTT⟩ : ∃ T : TB, (⟨s0_0, s0_1, s0_2, L⟩ : TB) = T := ⟨_, rfl⟩
    have hTl : T.lp.length = n0_3 := by rw [← hTT]; exact hnl
    have hd : Told T := by subst hTT; exact ⟨hf, ho, hl, hord⟩
    simp only [hTT] at HMY HMD
    have HTX := Lib.hid (fun W q (h : Rt W W.heap.size q T) (hW : Below w.heap.size w W) => text_some W q T h (HT.out.below hW) hd.fine (fun e he => hd.day he))
    have hts := textT_size hd
    have htp := text_pcs hd
    have htl := text_lines T
    have hlen := tells_len T
    have HIP := Lib.hid (fun (s : ByteArray) => ins_parse hd a1 (s := s))
    have HTP := Lib.hid (parse_text hd)
    have HSM := Lib.hid (show ∀ W q, Rt W W.heap.size q T → Below w.heap.size w W → Calls Tryd.prog 15 #[.pointer (some ⟨q, 0, none⟩), .agg #[.int .i64 s0_0, .int .i64 s0_1, .int .i64 s0_2, .slice A0_3 n0_3 c0_3]] W fun e w' => e = .returned (.bool true) ∧ Below W.heap.size W w' from fun W q h hW => by
      have h' := h.src
      rw [← hTT] at h'
      have h2 := HR.out.below hW
      have h3 := h2.len
      dsimp only at h'
      subst h3
      exact same_yes W _ s0_0 s0_1 s0_2 L A0_3 c0_3 h' h2)
    obtain ⟨TX, hTX⟩ : ∃ TX, textT T = TX := ⟨_, rfl⟩
    rw [hTX] at HTX hts htp htl HTP
    have hLL := linesL_size htl
    have HR1 := Lib.hid (fun W (hW : Mt W) => (lread_any TX W hW).mono fun e w' h => read_ok HTP.out (by have := hd.few; omega) h)
    have HR2 := Lib.hid (fun (s : ByteArray) (hs : s.data.toList = linesL (insL a1 0 (tellsL T ++ [noneL]))) W (hW : Mt W) => (lread_any s W hW).mono fun e w' h => read_ok (HIP.out s hs) (by have := hd.few; omega) h)
    obtain ⟨K, hKK⟩ : ∃ K, n0_3 + 3 = K := ⟨_, rfl⟩
    have hk3 : (tellsL T ++ [(⟨#[]⟩ : ByteArray)]).length = K := by rw [List.length_append, hlen, hTl]; exact hKK
    have HPC := Lib.hid (show ∀ W, Calls Tryd.prog 21 #[.string TX, .int .u8 10] W fun e w' => ∃ A cap, e = .returned (.slice A K cap) ∧ w'.ownsRow W.heap.size 9 1 (.slice A K cap) K (sts (tellsL T ++ [⟨#[]⟩])) ∧ Below W.heap.size W w' from fun W => by
      have := pieces_any TX 10 W (by omega)
      rw [htp, hk3] at this
      exact this)
    have hLL2 : (linesL (tellsL T ++ [noneL])).length ≤ 1301 := by rw [linesL_append, List.length_append, ← hLL]; have : (linesL [noneL]).length = 1 := rfl; omega
    obtain ⟨LL, hLLn⟩ : ∃ LL, tellsL T ++ [noneL] = LL := ⟨_, rfl⟩
    rw [show tellsL T ++ [(⟨#[]⟩ : ByteArray)] = LL from hLLn] at HPC hk3
    rw [hLLn] at hLL2 HR2
    have HLL := Lib.hid hLL2
    have HLen := Lib.hid hk3
    have HTS := Lib.hid hts
    have HKS := Lib.hid (show K ≤ 100 by omega)
    have hbb : (TX.toList == TX.toList) = true := beq_self_eq_true _
    clear hf ho hl hord hd htl hts htp hLL hLLn hTX hF hTT hfits hrow hlen hk3 hLL2 HTP HIP hKK hTl
    go_enter Tryd.func5, Tryd.ntmps5
    go_wp2_with (first
      | (go_at_call 8; refine (alive_yes _ (HM.out.below HX0.out.below)).mono ?_; rintro e w1 ⟨rfl, hb1⟩; have HX := Lib.hid (HX0.out.next hb1); obtain ⟨c0, c1, c2, c3⟩ := cells4 HX.out; clear hb1)
      | (go_at_call 9; refine (HMD.out _ HX.out.below).mono ?_; intro e w2 hp; obtain ⟨hp, hb2⟩ := hp; obtain ⟨q, rfl, hrt⟩ := HMY.out w2 _ _ hp; clear hp; have HRT := Lib.hid hrt; have HX := Lib.hid (HX.out.next hb2); clear c0 c1 c2 c3; obtain ⟨c0, c1, c2, c3⟩ := cells4 HX.out; clear hb2 hrt)
      | (go_at_call 9; refine (HMD.out _ HX.out.below).mono ?_; intro e w2 hp; obtain ⟨hp, hb2⟩ := hp; obtain rfl := HMN.out w2 _ _ hp; clear hp; have HX := Lib.hid (HX.out.next hb2); clear c0 c1 c2 c3; obtain ⟨c0, c1, c2, c3⟩ := cells4 HX.out; clear hb2)
      | (go_at_call 14; refine (HTX.out _ _ HRT.out HX.out.below).mono ?_; rintro e w3 ⟨rfl, hb3⟩; have HRT := Lib.hid ((HRT.out.below hb3).mono hb3.size); have HX := Lib.hid (HX.out.next hb3); clear c0 c1 c2 c3; obtain ⟨c0, c1, c2, c3⟩ := cells4 HX.out; clear hb3)
      | (go_at_call 21; refine (HPC.out _).mono ?_; rintro e w5 ⟨AP, cp, rfl, hown, hb3⟩; have HOwn := Lib.hid hown; have HRA := Lib.hid ((HRA.out.below hb3).mono hb3.size); have HX := Lib.hid (HX.out.next hb3); clear c0 c1 c2 c3; obtain ⟨c0, c1, c2, c3⟩ := cells4 HX.out; clear hb3 hown)
      | (go_at_call 19; refine (HR1.out _ (HM.out.below HX.out.below)).mono ?_; rintro e w4 ⟨q1, rfl, hr1, hb3⟩; have HRA := Lib.hid hr1; have HX := Lib.hid (HX.out.next hb3); clear c0 c1 c2 c3; obtain ⟨c0, c1, c2, c3⟩ := cells4 HX.out; clear hb3 hr1))
    clear c0 c1 c2 c3
    have HBw := Lib.hid HX.out.below
    go_loopw [12, 45] (fun vm vi wr => ∃ (k : Nat) (P : ByteArray), k ≤ K ∧ vi = .int .i64 (k : Int) ∧ vm = .string P ∧ P.data.toList = linesL (insL a1 0 (LL.take k)) ∧ wr = w5) (fun _ i _ => K - (intOf i).toNat)
    case atStart => exact ⟨0, ⟨#[]⟩, Nat.zero_le _, rfl, rfl, by simp [linesL, insL], rfl⟩
    case round =>
      obtain ⟨k, P, hk, rfl, rfl, hP, hw⟩ := hrel
      replace hw := hw.symm
      subst hw
      have hKS := HKS.out
      have hlen := HLen.out
      have hall := HLL.out
      by_cases hlt : k < K
      · obtain ⟨x, hx⟩ : ∃ x, LL[k]? = some x := ⟨_, List.getElem?_eq_getElem (by omega)⟩
        obtain ⟨b, rfl, _, hcap, hcm, hcell⟩ := own_text HOwn.out hx
        have hnext : LL.take (k + 1) = LL.take k ++ [x] := by
          obtain ⟨hk', e'⟩ := List.getElem?_eq_some_iff.1 hx
          rw [List.take_succ_eq_append_getElem hk', e']
        have htk : (LL.take k).length = k := by rw [List.length_take]; omega
        have hps : P.size ≤ 1311 := by
          rw [linesL_size hP]
          have h1 := insL_len a1 (LL.take k) 0
          have h2 := take_len LL k
          split at h1 <;> omega
        have hxs : x.size ≤ 1301 := by rw [← size_list]; exact Nat.le_trans (mem_lines (List.mem_of_getElem? hx)) hall
        have hki : (k : Int) < (K : Int) := by omega
        have ew := IntWalk.i64_in ((k : Int) + 1) (by omega)
        have hts := insL_snoc a1 (LL.take k) 0 x
        rw [htk, Nat.zero_add, ← hnext] at hts
        have HD1 := Lib.hid (show (k : Int) = a1 → (P ++ ⟨#[10, 35, 32, 97, 32, 119, 111, 114, 100, 10]⟩ ++ x ++ ⟨#[10]⟩).data.toList = linesL (insL a1 0 (LL.take (k + 1))) from fun h => by
          rw [hts, if_pos h]
          exact add_ins hP)
        have HD2 := Lib.hid (show ¬ (k : Int) = a1 → (P ++ x ++ ⟨#[10]⟩).data.toList = linesL (insL a1 0 (LL.take (k + 1))) from fun h => by
          rw [hts, if_neg h]
          exact add_line hP)
        obtain ⟨ps, hps'⟩ : ∃ m, P.size = m := ⟨_, rfl⟩
        obtain ⟨xs, hxs'⟩ : ∃ m, x.size = m := ⟨_, rfl⟩
        rw [hps'] at hps
        rw [hxs'] at hxs
        have q1 : ¬ 9223372036854775807 < ps + xs := by omega
        have q2 : ¬ 9223372036854775807 < ps + xs + 1 := by omega
        have q3 : ¬ 9223372036854775807 < ps + 10 := by omega
        have q4 : ¬ 9223372036854775807 < ps + 10 + xs := by omega
        have q5 : ¬ 9223372036854775807 < ps + 10 + xs + 1 := by omega
        have HKL := Lib.hid (show k + 1 ≤ K by omega)
        clear hx hnext htk hP hts hall hlen hps hxs hKS
        by_cases h2 : (k : Int) = a1
        · have d2 : ((k : Int) == a1) = true := by rw [h2]; exact beq_self_eq_true _
          have HDN := Lib.hid (HD1.out h2)
          clear h2 hk
          go_wp2
          go_roundw
          case rel => exact ⟨k + 1, _, HKL.out, by go_num, rfl, HDN.out, trivial⟩
          case measure => simp [intOf]; omega
        · have d2 : ((k : Int) == a1) = false := by rw [beq_eq_false_iff_ne]; exact h2
          have HDN := Lib.hid (HD2.out h2)
          clear h2 hk
          go_wp2
          go_roundw
          case rel => exact ⟨k + 1, _, HKL.out, by go_num, rfl, HDN.out, trivial⟩
          case measure => simp [intOf]; omega
      · have hkM : k = K := by omega
        subst hkM
        rw [List.take_of_length_le (by omega)] at hP
        have HR3 := Lib.hid (HR2.out P hP)
        have hltI : decide ((k : Int) < (k : Int)) = false := decide_eq_false (by omega)
        obtain ⟨c0, c1, c2, c3⟩ := cells4 HX.out
        clear hP hall hlen hKS hlt hk
        go_wp2_with (first
          | (go_at_call 19; with_reducible refine (HR3.out _ (HM.out.below HX.out.below)).mono ?_; rintro e w6 ⟨q2, rfl, hr2, hb6⟩; have HRY := Lib.hid hr2; have HRA := Lib.hid ((HRA.out.below hb6).mono hb6.size); have HX := Lib.hid (HX.out.next hb6); clear c0 c1 c2 c3; obtain ⟨c0, c1, c2, c3⟩ := cells4 HX.out; clear hb6 hr2)
          | (go_at_call 15; with_reducible refine (HSM.out _ _ HRA.out HX.out.below).mono ?_; rintro e w7 ⟨rfl, hb6⟩; have HRY := Lib.hid ((HRY.out.below hb6).mono hb6.size); have HRA := Lib.hid ((HRA.out.below hb6).mono hb6.size); have HX := Lib.hid (HX.out.next hb6); clear c0 c1 c2 c3; obtain ⟨c0, c1, c2, c3⟩ := cells4 HX.out; clear hb6)
          | (go_at_call 15; with_reducible refine (HSM.out _ _ HRY.out HX.out.below).mono ?_; rintro e w8 ⟨rfl, hb6⟩; have HRY := Lib.hid ((HRY.out.below hb6).mono hb6.size); have HRA := Lib.hid ((HRA.out.below hb6).mono hb6.size); have HX := Lib.hid (HX.out.next hb6); clear c0 c1 c2 c3; obtain ⟨c0, c1, c2, c3⟩ := cells4 HX.out; clear hb6)
          | (go_at_call 14; with_reducible refine (HTX.out _ _ HRA.out HX.out.below).mono ?_; rintro e w9 ⟨rfl, hb6⟩; have HRY := Lib.hid ((HRY.out.below hb6).mono hb6.size); have HRA := Lib.hid ((HRA.out.below hb6).mono hb6.size); have HX := Lib.hid (HX.out.next hb6); clear hb6)
          | (go_at_call 14; with_reducible refine (HTX.out _ _ HRY.out HX.out.below).mono ?_; rintro e w10 ⟨rfl, hb6⟩; have HX := Lib.hid (HX.out.next hb6); clear hb6))
        go_ret
        exact ⟨rfl, HX.out.below⟩
  · have HMN := Lib.hid (fun (W : World) (e : Ending) (w' : World) (h : ((F = 0 ∧ ∃ q, e = .returned (.tuple #[.pointer (some ⟨q, 0, none⟩), .int .i64 0]) ∧ Rt w' w'.heap.size q ⟨s0_0, s0_1, s0_2, L⟩) ∨ (¬ F = 0 ∧ e = .returned (.tuple #[.pointer none, .int .i64 F])))) => (h.resolve_left (fun h => h0 h.1)).2)
    have hne : (F != 0) = true := by simp [h0]
    clear hF h0 h64 hnl hfits hrow
    go_enter Tryd.func5, Tryd.ntmps5
    go_wp2_with (first
      | (go_at_call 8; refine (alive_yes _ (HM.out.below HX0.out.below)).mono ?_; rintro e w1 ⟨rfl, hb1⟩; have HX := Lib.hid (HX0.out.next hb1); obtain ⟨c0, c1, c2, c3⟩ := cells4 HX.out; clear hb1)
      | (go_at_call 9; refine (HMD.out _ HX.out.below).mono ?_; intro e w2 hp; obtain ⟨hp, hb2⟩ := hp; obtain ⟨q, rfl, hrt⟩ := HMY.out w2 _ _ hp; clear hp; have HRT := Lib.hid hrt; have HX := Lib.hid (HX.out.next hb2); clear c0 c1 c2 c3; obtain ⟨c0, c1, c2, c3⟩ := cells4 HX.out; clear hb2 hrt)
      | (go_at_call 9; refine (HMD.out _ HX.out.below).mono ?_; intro e w2 hp; obtain ⟨hp, hb2⟩ := hp; obtain rfl := HMN.out w2 _ _ hp; clear hp; have HX := Lib.hid (HX.out.next hb2); clear c0 c1 c2 c3; obtain ⟨c0, c1, c2, c3⟩ := cells4 HX.out; clear hb2)
      | (go_at_call 14; refine (HTX.out _ _ HRT.out HX.out.below).mono ?_; rintro e w3 ⟨rfl, hb3⟩; have HRT := Lib.hid ((HRT.out.below hb3).mono hb3.size); have HX := Lib.hid (HX.out.next hb3); clear c0 c1 c2 c3; obtain ⟨c0, c1, c2, c3⟩ := cells4 HX.out; clear hb3)
      | (go_at_call 21; refine (HPC.out _).mono ?_; rintro e w5 ⟨AP, cp, rfl, hown, hb3⟩; have HOwn := Lib.hid hown; have HRA := Lib.hid ((HRA.out.below hb3).mono hb3.size); have HX := Lib.hid (HX.out.next hb3); clear c0 c1 c2 c3; obtain ⟨c0, c1, c2, c3⟩ := cells4 HX.out; clear hb3 hown)
      | (go_at_call 19; refine (HR1.out _ (HM.out.below HX.out.below)).mono ?_; rintro e w4 ⟨q1, rfl, hr1, hb3⟩; have HRA := Lib.hid hr1; have HX := Lib.hid (HX.out.next hb3); clear c0 c1 c2 c3; obtain ⟨c0, c1, c2, c3⟩ := cells4 HX.out; clear hb3 hr1))
    go_ret
    exact ⟨rfl, HX.out.below⟩

set_option maxRecDepth 100000 in
theorem lifted (os : Os) (started : os.Started) (H : Type) (enc : TypeId × Value → H) :
    ReturnsInHanded {} Tryd.checked os 5 .any (fun w args => (Rows.leapBackSpec.pre enc Tryd.prog Tryd.f5 [] false w args ∧ laidMetH Tryd.prog laidTab w) ∧ sizedMet enc Tryd.prog Tryd.f5 (OpenSpec.ofChange Rows.leapBackSpec) false w args) (Rows.leapBackSpec.post enc Tryd.prog Tryd.f5 false true false false) := by
  refine returnsInHanded_and_shaped (C := Tryd.checked) (X := fun w _ => laidMetH Tryd.prog laidTab w) (fun _ _ _ hh h => h.of_heap hh) own started (by kernel_rfl) Tryd.func5
    (ChangeSpec.witness_shaped (enc := enc) (C := Tryd.checked) (os := os) (X := fun w _ => laidMetH Tryd.prog laidTab w) false (World.laidAll Tryd.prog os laidTab) #[.agg #[.int .i64 0, .int .i64 0, .int .i64 0, .slice none 0 0], .int .i64 0] 8 (World.laidAll_os _ _ _) (World.shaped_of_ZipB (by kernel_rfl) (by kernel_rfl)) (by kernel_rfl) (by kernel_rfl) (by kernel_rfl) (door_met os _)) ?_
  intro W base args ds gs before hval0 hW hL hsh
  have hval : ∀ (j : Nat) t v, Tryd.f5.params[j]? = some t → args[j]? = some v → Value.okWide Tryd.prog W .any base t v := hval0
  have hW' := hW
  obtain ⟨p, q, hA0, hV, rfl, hfz, hnd⟩ := hW
  have hA : DataW.TrodAll enc Tryd.prog W 0 (fun _ => true) true Tryd.f5.params.toList args.toList ds p := hA0
  have hAk := hA
  rw [Tryd.params5] at hA hval
  obtain ⟨v0, vs0, d0, ds0, p0, q0, hargs, rfl, hp, h0, r0⟩ := trodAll_cons hA
  obtain ⟨v1, vs1, d1, ds1, p1, q1, rfl, rfl, rfl, h1, r1⟩ := trodAll_cons r0
  obtain ⟨rfl, rfl, rfl⟩ := trodAll_nil r1
  obtain rfl : args = #[v0, v1] := by cases args; simp_all
  obtain ⟨rfl, rfl⟩ := trodVars_none hV
  clear hA0 hval0 hargs
  simp only [List.append_nil] at hW'
  have hend : ∀ W' : World, Below W.heap.size W W' → Rows.leapBackSpec.post enc Tryd.prog Tryd.f5 false true false false W #[v0, v1] (.bool true) W' := fun W' hb =>
    law_post (tb := 4) hW' hAk rfl (by kernel_rfl) (by kernel_rfl) (by kernel_rfl) Tryd.underlying4 rfl rfl rfl hb
  clear hW' hAk hp
  obtain ⟨vs0', rfl, hfit0⟩ := flatS_arg (ks := [.p (.int .i64), .p (.int .i64), .p (.int .i64), .rows [.int .i64, .int .i64]]) 9 Tryd.underlying24 (by kernel_rfl) (hval 0 24 v0 rfl rfl) h0
  obtain ⟨s0_0, s0_1, s0_2, A0_3, n0_3, c0_3, f0_3, rfl, w0_0, w0_1, w0_2, w0_3⟩ := cells0 hfit0
  obtain ⟨a1, rfl, rfl, rfl, w1⟩ := open_int Tryd.underlying3 (hval 1 3 v1 rfl rfl) h1
  refine (walk s0_0 s0_1 s0_2 A0_3 n0_3 c0_3 f0_3 a1 W w0_0 w0_1 w0_2 w0_3 w1 (tab_of_laid hL) (mt_of_shaped hsh)).mono fun e W' ⟨he, hg⟩ => ?_
  subst he
  exact ⟨_, rfl, hend W' hg⟩

theorem over : Rows.leapBackRow.holds Tryd.pinned (OpenSpec.ofChange Rows.leapBackSpec) :=
  OpenClaim.holds_of_wide 5 Tryd.f5 rfl rfl rfl rfl rfl rfl rfl ⟨rfl, rfl, rfl, rfl, rfl⟩ rfl rfl rfl rfl rfl (by kernel_rfl) Tryd.func5 (by kernel_rfl)
    (of_decide_eq_true (by kernel_rfl)) (by unfold Func.isWrapper; first | (rw [if_pos (by decide +kernel)]; kernel_rfl) | (rw [if_neg (by decide +kernel)]; exact ⟨rfl, rfl⟩))
    (fun os started H enc _ => lifted os started H enc)

/-- THE STATEMENT: the tied card -/
theorem proved : Rows.LeapBackCardSaid :=
  Claim7.holds_tied_plain_at .later [] [.data, .data, .data, .data, .pinned] true (true, "7c37e060eaa0f112e89e4d22143b27731f1469fff835db8b9bba8390e6494458") true
    over (fun _ h => by cases h) (by kernel_rfl) (fun _ h => by cases h) leapBack_row_tie rfl ⟨rfl, rfl⟩ (by kernel_rfl) rfl
    (fun f fn hf hfn => by
      obtain rfl : f = 5 := Option.some.inj ((show Tryd.prog.funcNamed "angelus/angeluslaw21.LeapBack" = some 5 by kernel_rfl).symm.trans hf) |>.symm
      obtain rfl : fn = Tryd.f5 := (Option.some.inj (Tryd.func5.symm.trans hfn)).symm
      exact ⟨by kernel_rfl, fun j t ht => by
        rw [Tryd.params5] at ht
        have hm : t ∈ [24, 3] := by simpa using Array.mem_of_getElem? ht
        have hall : ([24, 3].all fun u => !Tryd.prog.wantsStandIn u) = true := by kernel_rfl
        exact (show Tryd.prog.wantsStandIn t = false by simpa using List.all_eq_true.1 hall t hm)⟩)
    (by kernel_rfl)
#print axioms proved
end Go.Proofs.YtiglhmdiiajmhaaDoor.leapBack

/- Package leap: the document's text of a table. -/
import Derived.Test.YtiglhmdiiajmhaaDoorLpK
import Derived.Test.YtiglhmdiiajmhaaDoorLpS
import Derived.Test.YtiglhmdiiajmhaaDoorLpT
import Derived.Test.YtiglhmdiiajmhaaDoorTurn
namespace Go.Proofs.YtiglhmdiiajmhaaDoor
open Go.RowKit Go.Shelf
set_option linter.unusedVariables false
set_option linter.unusedSimpArgs false
attribute [local go_sem] Oper.semAt_some

theorem bytes_of {a b : ByteArray} (h : a.data.toList = b.data.toList) : a = b := ByteArray.ext (Array.toList_inj.1 h)
theorem head_said (st ah : Int) : (((⟨#[115, 116, 97, 114, 116, 32]⟩ : ByteArray) ++ dateB st ++ ⟨#[32]⟩) ++ decB ah.toNat) ++ ⟨#[10]⟩ = headB st ah := by
  refine bytes_of ?_
  unfold headB
  rw [line3]
  simp only [app_list]
  simp [startB]
theorem leap_said (P : ByteArray) (x : Int) : (P ++ ⟨#[108, 101, 97, 112, 32]⟩ ++ dateB x) ++ ⟨#[32, 43, 49, 10]⟩ = P ++ leapLB (x, 1) ∧ (P ++ ⟨#[108, 101, 97, 112, 32]⟩ ++ dateB x) ++ ⟨#[32, 45, 49, 10]⟩ = P ++ leapLB (x, -1) := by
  constructor
  · refine bytes_of ?_
    unfold leapLB
    rw [app_list P, line3]
    simp only [app_list]
    simp [leapB, signB]
  · refine bytes_of ?_
    unfold leapLB
    rw [app_list P, line3]
    simp only [app_list]
    simp [leapB, signB]
theorem end_said (P : ByteArray) (x : Int) : ((P ++ ⟨#[101, 110, 100, 32]⟩) ++ dateB x) ++ ⟨#[10]⟩ = P ++ endLB x := by
  refine bytes_of ?_
  unfold endLB
  rw [app_list P, line2]
  simp only [app_list]
  simp [endB]
set_option maxRecDepth 100000 in
set_option maxHeartbeats 8000000 in
theorem rtabtext_any (w : World) (st ah en : Int) (A : Option Addr) (n c : Nat) (L : List (Int × Int)) (hr : PRow w A n c L) (hn : n ≤ 1000) (hT : Tab w) (hf : FineR st ah en) (ho : Ones L) (hl : ∀ e ∈ L, -719162 ≤ e.1 ∧ e.1 ≤ 2932896) :
    Calls Tryd.prog 18 #[.agg #[.int .i64 st, .int .i64 ah, .int .i64 en, .slice A n c]] w fun e w' => e = .returned (.string (textT ⟨st, ah, en, L⟩)) ∧ Below w.heap.size w w' := by
  have hnl := hr.len
  have hcap := hr.cap_le
  have hmax := hr.max
  unfold maxLen at hmax
  have HX0 := Lib.hid (Box.start w 24 #[.int .i64 st, .int .i64 ah, .int .i64 en, .slice A n c])
  have HR := Lib.hid hr
  have HT := Lib.hid hT
  have c0 := HX0.out.holds.cell 0
  have c1 := HX0.out.holds.cell 1
  have HDS := Lib.hid (fun W => rdate_any st W hf.s1 hf.s2)
  have HDE := Lib.hid (fun W => rdate_any en W hf.e1 hf.e2)
  have HIT := Lib.hid (fun W hW => show Calls Tryd.prog 26 #[.int .i64 ah] W fun e w' => e = .returned (.string (decB ah.toNat)) ∧ Below W.heap.size W w' by
    have := itoa_any ah.toNat W hW (by have := hf.a2; omega)
    rwa [show ((ah.toNat : Nat) : Int) = ah by have := hf.a1; omega] at this)
  have hd0 := dateB_size hf.s1 hf.s2
  have hd1 : (decB ah.toNat).size ≤ 2 := by rw [decB_size]; exact nDigits_le (by have := hf.a2; omega) (by decide)
  have HHD := Lib.hid (head_said st ah)
  have HHS := Lib.hid (show (headB st ah).size ≤ 20 from headB_size hf.s1 hf.s2 hf.a1 hf.a2)
  have HED := Lib.hid (dateB_size hf.e1 hf.e2)
  have HL := Lib.hid hl
  have HOn := Lib.hid ho
  obtain ⟨DS, hDS⟩ : ∃ D, dateB st = D := ⟨_, rfl⟩
  obtain ⟨DC, hDC⟩ : ∃ D, decB ah.toNat = D := ⟨_, rfl⟩
  rw [hDS] at HDS HHD hd0
  rw [hDC] at HIT HHD hd1
  obtain ⟨m, hm⟩ : ∃ m, DC.size = m := ⟨_, rfl⟩
  rw [hm] at hd1
  have q1 : ¬ 9223372036854775807 < 17 + m := by omega
  have q2 : ¬ 9223372036854775807 < 17 + m + 1 := by omega
  clear hr hT hf ho hl hDS hDC
  go_enter Tryd.func18, Tryd.ntmps18
  go_upto_region 1 with (fail)
  obtain ⟨w0, hw0⟩ : ∃ w0, w.alloc (.cells #[.int .i64 st, .int .i64 ah, .int .i64 en, .slice A n c] 24) = w0 := ⟨_, rfl⟩
  simp only [hw0] at HX0 c0 c1 ⊢
  have HX := Lib.hid (show Box w 24 #[.int .i64 st, .int .i64 ah, .int .i64 en, .slice A n c] w0.drew from HX0.out.drew)
  clear HX0 hw0 c0 c1
  refine region_turns (fun (w' : World) => w'.cell? ⟨w.heap.size, 0, none⟩ = some (.int .i64 st) ∧ w'.cell? ⟨w.heap.size, 1, none⟩ = some (.int .i64 ah)) (fun j => decide (11 ≤ j)) (by kernel_rfl) (⟨HX.out.holds.cell 0, HX.out.holds.cell 1⟩) (fun hS => ?_)
  refine Turns.take hS 0 _ rfl (by kernel_rfl) (by kernel_rfl) (by kernel_rfl) (by kernel_rfl) (fun _ _ _ h => h) (by rfl) (fun w' hS' => by (try dsimp only at hS'); go_split_ands; go_simp; (try with_reducible rfl)) ?_
  simp only [Act.put, List.getElem_toArray, List.getElem_cons_succ, List.getElem_cons_zero, List.setIfInBounds_toArray, List.set_cons_zero, List.set_cons_succ]
  refine Turns.take hS 1 _ rfl (by kernel_rfl) (by kernel_rfl) (by kernel_rfl) (by kernel_rfl) (fun _ _ _ h => h) (by rfl) (fun w' hS' => by (try dsimp only at hS'); go_split_ands; go_simp; (try with_reducible rfl)) ?_
  simp only [Act.put, List.getElem_toArray, List.getElem_cons_succ, List.getElem_cons_zero, List.setIfInBounds_toArray, List.set_cons_zero, List.set_cons_succ]
  refine Turns.take hS 5 _ rfl (by kernel_rfl) (by kernel_rfl) (by kernel_rfl) (by kernel_rfl) (fun _ _ _ h => h) (by rfl) (fun w' hS' => by (try dsimp only at hS'); go_split_ands; go_simp; (try with_reducible rfl)) ?_
  simp only [Act.put, List.getElem_toArray, List.getElem_cons_succ, List.getElem_cons_zero, List.setIfInBounds_toArray, List.set_cons_zero, List.set_cons_succ]
  refine Turns.take hS 6 _ rfl (by kernel_rfl) (by kernel_rfl) (by kernel_rfl) (by kernel_rfl) (fun _ _ _ h => h) (by rfl) (fun w' hS' => by (try dsimp only at hS'); go_split_ands; go_simp; (try with_reducible rfl)) ?_
  simp only [Act.put, List.getElem_toArray, List.getElem_cons_succ, List.getElem_cons_zero, List.setIfInBounds_toArray, List.set_cons_zero, List.set_cons_succ]
  refine Turns.next 2 rfl (by kernel_rfl) (by rfl) (fun K hK => ?_)
  go_simp
  go_at_call 28
  refine (HDS.out _).mono ?_
  rintro e w2 ⟨rfl, hb⟩
  replace HX := Lib.hid (HX.out.next hb)
  clear hb
  refine hK.out _ _ (show (fun (w' : World) => w'.cell? ⟨w.heap.size, 0, none⟩ = some (.int .i64 st) ∧ w'.cell? ⟨w.heap.size, 1, none⟩ = some (.int .i64 ah)) _ from ⟨HX.out.holds.cell 0, HX.out.holds.cell 1⟩) ?_
  clear hK K hS
  have hS := (show (fun (w' : World) => w'.cell? ⟨w.heap.size, 0, none⟩ = some (.int .i64 st) ∧ w'.cell? ⟨w.heap.size, 1, none⟩ = some (.int .i64 ah)) _ from ⟨HX.out.holds.cell 0, HX.out.holds.cell 1⟩)
  refine Turns.take hS 3 _ rfl (by kernel_rfl) (by kernel_rfl) (by kernel_rfl) (by kernel_rfl) (fun _ _ _ h => h) (by rfl) (fun w' hS' => by (try dsimp only at hS'); go_split_ands; go_simp; (try with_reducible rfl)) ?_
  simp only [Act.put, List.getElem_toArray, List.getElem_cons_succ, List.getElem_cons_zero, List.setIfInBounds_toArray, List.set_cons_zero, List.set_cons_succ]
  refine Turns.take hS 4 _ rfl (by kernel_rfl) (by kernel_rfl) (by kernel_rfl) (by kernel_rfl) (fun _ _ _ h => h) (by rfl) (fun w' hS' => by (try dsimp only at hS'); go_split_ands; go_simp; (try with_reducible rfl)) ?_
  simp only [Act.put, List.getElem_toArray, List.getElem_cons_succ, List.getElem_cons_zero, List.setIfInBounds_toArray, List.set_cons_zero, List.set_cons_succ]
  refine Turns.next 7 rfl (by kernel_rfl) (by rfl) (fun K hK => ?_)
  go_simp
  go_at_call 26
  refine (HIT.out _ (HT.out.below HX.out.below)).mono ?_
  rintro e w7 ⟨rfl, hb⟩
  replace HX := Lib.hid (HX.out.next hb)
  clear hb
  refine hK.out _ _ (show (fun (w' : World) => w'.cell? ⟨w.heap.size, 0, none⟩ = some (.int .i64 st) ∧ w'.cell? ⟨w.heap.size, 1, none⟩ = some (.int .i64 ah)) _ from ⟨HX.out.holds.cell 0, HX.out.holds.cell 1⟩) ?_
  clear hK K hS
  have hS := (show (fun (w' : World) => w'.cell? ⟨w.heap.size, 0, none⟩ = some (.int .i64 st) ∧ w'.cell? ⟨w.heap.size, 1, none⟩ = some (.int .i64 ah)) _ from ⟨HX.out.holds.cell 0, HX.out.holds.cell 1⟩)
  refine Turns.take hS 8 _ rfl (by kernel_rfl) (by kernel_rfl) (by kernel_rfl) (by kernel_rfl) (fun _ _ _ h => h) (by rfl) (fun w' hS' => by (try dsimp only at hS'); go_split_ands; go_simp; (try with_reducible rfl)) ?_
  simp only [Act.put, List.getElem_toArray, List.getElem_cons_succ, List.getElem_cons_zero, List.setIfInBounds_toArray, List.set_cons_zero, List.set_cons_succ]
  refine Turns.take hS 9 _ rfl (by kernel_rfl) (by kernel_rfl) (by kernel_rfl) (by kernel_rfl) (fun _ _ _ h => h) (by rfl) (fun w' hS' => by (try dsimp only at hS'); go_split_ands; go_simp; (try with_reducible rfl)) ?_
  simp only [Act.put, List.getElem_toArray, List.getElem_cons_succ, List.getElem_cons_zero, List.setIfInBounds_toArray, List.set_cons_zero, List.set_cons_succ]
  refine Turns.take hS 10 _ rfl (by kernel_rfl) (by kernel_rfl) (by kernel_rfl) (by kernel_rfl) (fun _ _ _ h => h) (by rfl) (fun w' hS' => by (try dsimp only at hS'); go_split_ands; go_simp; (try with_reducible rfl)) ?_
  simp only [Act.put, List.getElem_toArray, List.getElem_cons_succ, List.getElem_cons_zero, List.setIfInBounds_toArray, List.set_cons_zero, List.set_cons_succ]
  refine Turns.rest (late_done (by kernel_rfl)) ?_
  refine any_tail 11 (by rfl) (by kernel_rfl) ?_
  simp only [List.drop_succ_cons, List.drop_zero]
  clear hS
  have c3 := HX.out.holds.cell 3
  rw [HHD.out]
  clear q1 q2 hm hd0 hd1 HDS HIT HHD
  go_wp2
  go_loopw [3, 20] (fun s i wr => ∃ k : Nat, k ≤ n ∧ i = .int .i64 (k : Int) ∧ s = .string (leapsT (headB st ah) (L.take k)) ∧ Box w 24 #[.int .i64 st, .int .i64 ah, .int .i64 en, .slice A n c] wr) (fun _ i _ => n - (intOf i).toNat)
  case atStart => exact ⟨0, Nat.zero_le _, rfl, by rw [List.take_zero]; rfl, HX.out⟩
  case round =>
    clear HX c3
    obtain ⟨k, hk, rfl, rfl, hx⟩ := hrel
    have HX := Lib.hid hx
    have hps : (leapsT (headB st ah) (L.take k)).size ≤ 20 + 19 * 1000 := by
      rw [leapsT_size _ _ (fun e he => HL.out e (List.mem_of_mem_take he)), List.length_take]
      have := HHS.out
      have : min k L.length ≤ 1000 := by omega
      omega
    obtain ⟨P, hP⟩ : ∃ P, leapsT (headB st ah) (L.take k) = P := ⟨_, rfl⟩
    rw [hP] at hps
    simp only [hP]
    by_cases hlt : k < n
    · obtain ⟨e, he⟩ : ∃ x, L[k]? = some x := ⟨_, List.getElem?_eq_getElem (by omega)⟩
      have hmem : e ∈ L := List.mem_of_getElem? he
      have hnext : L.take (k + 1) = L.take k ++ [e] := by
        obtain ⟨hk', e'⟩ := List.getElem?_eq_some_iff.1 he
        rw [List.take_succ_eq_append_getElem hk', e']
      have HNT := Lib.hid (show leapsT (headB st ah) (L.take (k + 1)) = P ++ leapLB e by rw [hnext, leapsT_snoc, hP])
      obtain ⟨x, y⟩ := e
      have h1 := HOn.out _ hmem
      have h2 := HL.out _ hmem
      dsimp only at h1 h2
      have hdx := dateB_size h2.1 h2.2
      have HDX := Lib.hid (fun W => rdate_any x W h2.1 h2.2)
      have HSD := Lib.hid (leap_said P x)
      obtain ⟨b, off, rfl, hbl, q0, q1⟩ := (HR.out.below HX.out.below).at he
      have hltI : (k : Int) < (n : Int) := by omega
      have ew := IntWalk.i64_in ((k : Int) + 1) (by omega)
      have HY := Lib.hid (Box.start wr 50 #[.int .i64 x, .int .i64 y])
      have x0 := HY.out.holds.cell 0
      have x1 := HY.out.holds.cell 1
      have HXY := Lib.hid (HX.out.next HY.out.below)
      obtain ⟨DX, hDX⟩ : ∃ D, dateB x = D := ⟨_, rfl⟩
      obtain ⟨m, hm⟩ : ∃ m, P.size = m := ⟨_, rfl⟩
      rw [hDX] at hdx HDX HSD
      rw [hm] at hps
      have q2 : ¬ 9223372036854775807 < m + 5 := by omega
      have q3 : ¬ 9223372036854775807 < m + 5 + 10 := by omega
      have q4 : ¬ 9223372036854775807 < m + 5 + 10 + 4 := by omega
      have q5 : ¬ 9223372036854775807 < m + 15 := by omega
      have q6 : ¬ 9223372036854775807 < m + 15 + 4 := by omega
      have q7 : ¬ 9223372036854775807 < m + 19 := by omega
      clear he hmem hnext h2 hDX hx hP
      rcases h1 with rfl | rfl
      · go_wp2_with (go_at_call 28; refine (HDX.out _).mono ?_; rintro e w2 ⟨rfl, hb⟩; have HXZ := Lib.hid (HXY.out.next hb); clear hb)
        go_roundw
        case rel => exact ⟨k + 1, by omega, by go_num, by rw [HNT.out, ← HSD.out.1], HXZ.out⟩
        case measure => simp [intOf]; omega
      · go_wp2_with (go_at_call 28; refine (HDX.out _).mono ?_; rintro e w2 ⟨rfl, hb⟩; have HXZ := Lib.hid (HXY.out.next hb); clear hb)
        go_roundw
        case rel => exact ⟨k + 1, by omega, by go_num, by rw [HNT.out, ← HSD.out.2], HXZ.out⟩
        case measure => simp [intOf]; omega
    · have hkn : k = n := by omega
      subst hkn
      have hall : L.take k = L := List.take_of_length_le (by omega)
      have HTT := Lib.hid (show P ++ endLB en = textT ⟨st, ah, en, L⟩ by unfold textT; dsimp only; rw [← hP, hall])
      have HES := Lib.hid (end_said P en)
      have hltI : decide ((k : Int) < (k : Int)) = false := decide_eq_false (by omega)
      have c2 := HX.out.holds.cell 2
      have hdx := HED.out
      obtain ⟨DX, hDX⟩ : ∃ D, dateB en = D := ⟨_, rfl⟩
      obtain ⟨m, hm⟩ : ∃ m, P.size = m := ⟨_, rfl⟩
      rw [hDX] at hdx HDE HES
      rw [hm] at hps
      have q2 : ¬ 9223372036854775807 < m + 4 := by omega
      have q3 : ¬ 9223372036854775807 < m + 4 + 10 := by omega
      have q4 : ¬ 9223372036854775807 < m + 4 + 10 + 1 := by omega
      have q5 : ¬ 9223372036854775807 < m + 14 := by omega
      have q6 : ¬ 9223372036854775807 < m + 14 + 1 := by omega
      have q7 : ¬ 9223372036854775807 < m + 15 := by omega
      clear hall hx hP hDX
      go_wp2_with (go_at_call 28; refine (HDE.out _).mono ?_; rintro e w2 ⟨rfl, hb⟩; have HXZ := Lib.hid (HX.out.next hb); clear hb)
      go_ret
      exact ⟨by rw [← HTT.out, ← HES.out]; rfl, HXZ.out.below⟩
end Go.Proofs.YtiglhmdiiajmhaaDoor

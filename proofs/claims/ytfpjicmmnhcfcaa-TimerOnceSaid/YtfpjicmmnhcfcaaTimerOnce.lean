/-
  What was set is due once, not sooner than it was to be, and all of it in the end.
  The walk is the prover's own; the frame of the row's step follows the kit's template.
-/
import Derived.Test.YtfpjicmmnhcfcaaRows
import Derived.Test.YtfpjicmmnhcfcaaLawKit
import Derived.Test.YtfpjicmmnhcfcaaTmN
import Derived.LoopTactic
import Derived.Deep.CutBlock
namespace Go.Proofs.Ytfpjicmmnhcfcaa.timerOnce
open Go.ChangeShapes Go.WideShapes Go.ChangeAt Go.RowKit Go.ChangeMaps Go.WideElems
set_option linter.unusedVariables false

theorem own : ownKnob Try.prog.godebug = none := by kernel_rfl
theorem range_i64 {zs : List Int} (h : ∀ n ∈ zs, (Lit.int .i64 n).wf = true) (k : Nat) : Fits (zs[k]?.getD 0) := by
  rcases Nat.lt_or_ge k zs.length with hk | hk
  · rw [List.getElem?_eq_getElem hk]
    exact fits_wf (h _ (List.getElem_mem hk))
  · rw [List.getElem?_eq_none hk]
    exact ⟨by decide, by decide⟩
/-- What falls due at a time: each of the numbers that were set, once, and none sooner. -/
def Falls (z : List Int) (n : Nat) (L : List (Int × Int)) (T : Int) (U : Nat) (D : List Int) (M : List (Int × Int)) : Prop :=
  M.Sublist (filled z n) ∧ L.drop U = M ∧ D.length = U ∧ U ≤ L.length ∧ ∀ j, j < U → ∃ m : Nat, m < n ∧ D[j]?.getD 0 = (m : Int) ∧ z[m]?.getD 0 ≤ T ∧ ∃ e : Int × Int, L.drop j = e :: L.drop (j + 1) ∧ e.2 = (m : Int)
theorem falls_mk {z : List Int} {n : Nat} {L : List (Int × Int)} (T : Int) (hL : L.Sublist (filled z n)) : Falls z n L T (upto T L) (dueL T L) (restL T L) := by
  refine ⟨(List.drop_sublist _ _).trans hL, rfl, due_len T L, upto_le T L, fun j hj => ?_⟩
  have hl : j < L.length := Nat.lt_of_lt_of_le hj (upto_le T L)
  obtain ⟨m, hm, he⟩ := (filled_mem z n L[j]).1 (hL.subset (List.getElem_mem hl))
  refine ⟨m, hm, ?_, ?_, L[j], List.drop_eq_getElem_cons hl, by rw [he]⟩
  · unfold dueL
    rw [List.getElem?_map, List.getElem?_take, if_pos hj, List.getElem?_eq_getElem hl, he]
    rfl
  · have : L[j] ∈ L.take (upto T L) := by
      rw [List.mem_iff_getElem?]
      exact ⟨j, by rw [List.getElem?_take, if_pos hj, List.getElem?_eq_getElem hl]⟩
    have := take_le this
    rw [he] at this
    exact this
theorem all_fall {z : List Int} {n : Nat} {L : List (Int × Int)} (hL : L.Sublist (filled z n)) (hz : ∀ k : Nat, Fits (z[k]?.getD 0)) : restL 9223372036854775807 L = [] := by
  unfold restL
  rw [upto_all fun e he => ?_, List.drop_length]
  obtain ⟨j, _, rfl⟩ := (filled_mem z n e).1 (hL.subset he)
  exact (hz j).2
set_option linter.unusedSimpArgs false in
set_option maxHeartbeats 4000000 in
set_option maxRecDepth 100000 in
theorem walk (A0 : Option Addr) (n0 c0 : Nat) (z0 : List Int) (A1 : Option Addr) (n1 c1 : Nat) (z1 : List Int) (w : World) (w0 : IntRow w .i64 A0 n0 c0 z0) (w1 : IntRow w .i64 A1 n1 c1 z1) :
    Calls Try.prog 4 #[.slice A0 n0 c0, .slice A1 n1 c1] w fun e w' => e = .returned (.bool true) ∧ Below w.heap.size w w' := by
  by_cases h16 : 16 < n0
  · go_enter Try.func4, Try.ntmps4
    go_wp2_with (first
      | ((go_at_call 7; refine (alive_yes _).mono ?_; rintro e w1 ⟨rfl, hb1⟩)))
    go_ret
    exact ⟨rfl, hb1⟩
  by_cases h100 : 100 < n1
  · go_enter Try.func4, Try.ntmps4
    go_wp2_with (first
      | ((go_at_call 7; refine (alive_yes _).mono ?_; rintro e w1 ⟨rfl, hb1⟩)))
    go_ret
    exact ⟨rfl, hb1⟩
  have R0 := Lib.hid w0
  have R1 := Lib.hid w1
  clear w0 w1
  go_enter Try.func4, Try.ntmps4
  go_wp2_with (first
    | ((go_at_call 7; refine (alive_yes _).mono ?_; rintro e w1 ⟨rfl, hb1⟩)))
  have hnew := Tm.new w1 (B := w.heap.size) hb1.size
  have hb2 := hb1.alloc hb1.size (.cells #[.slice none 0 0] 26)
  obtain ⟨g, hg⟩ : ∃ g, w1.heap.size = g := ⟨_, rfl⟩
  rw [hg] at hnew
  simp only [hg]
  have HN := Lib.hid hnew
  have HB2 := Lib.hid hb2
  clear hnew hb2 hb1 hg
  go_loopw [26] (fun i wr => ∃ (k : Nat) (v : Value), k ≤ n0 ∧ i = .int .i64 k ∧ Tm wr w.heap.size g v (filled z0 k) ∧ Below w.heap.size w wr) (fun i _ => n0 - (intOf i).toNat)
  case atStart => exact ⟨0, _, Nat.zero_le _, rfl, HN.out, HB2.out⟩
  case round =>
    obtain ⟨k, v, hk, rfl, hT, hb⟩ := hrel
    have HT := Lib.hid hT
    have HB := Lib.hid hb
    clear hT hb HN HB2
    have hsz := HB.out.size
    by_cases hlt : k < n0
    · obtain ⟨b, off, rfl, hbw, hc⟩ := R0.out.cell (by omega)
      have q := (HB.out.cell (p := ⟨b, off + k, none⟩) hbw).trans (hc k hlt)
      rw [List.getD_eq_getElem?_getD] at q
      obtain ⟨e1, e2⟩ := filled_set z0 (k := k) (by omega)
      have hset := set_any wr w.heap.size g v (filled z0 k) (z0[k]?.getD 0) k HT.out (wf_nat (by omega))
      unfold Given at hset
      rw [e1, e2] at hset
      obtain ⟨X, hX⟩ : ∃ X, z0[k]?.getD 0 = X := ⟨_, rfl⟩
      rw [hX] at q hset
      clear hc e1 e2 hX
      go_wp2_with (go_at_call 8; refine hset.mono ?_; rintro e w' ⟨rfl, hn⟩)
      have hb' := hn.below HT.out HB.out (Nat.le_refl _) hsz
      obtain ⟨v', ht', _⟩ := hn
      go_roundw
      case rel => exact ⟨k + 1, v', by omega, by go_num, ht', hb'⟩
      case measure => simp [intOf]; omega
    · have hkn : k = n0 := by omega
      rw [hkn] at HT
      clear hkn hk
      go_wp2
      have hset : Holds (wr.alloc (.cells #[.bool false, .bool false, .bool false, .bool false, .bool false, .bool false, .bool false, .bool false, .bool false, .bool false, .bool false, .bool false, .bool false, .bool false, .bool false, .bool false] 45)) wr.heap.size 45 (boolA (notIn n0 (filled z0 n0))) := by
        rw [notIn_all]
        exact Holds.new _ _ _
      have hT3 := HT.out.below (below_alloc wr (.cells #[.bool false, .bool false, .bool false, .bool false, .bool false, .bool false, .bool false, .bool false, .bool false, .bool false, .bool false, .bool false, .bool false, .bool false, .bool false, .bool false] 45))
      have hb3 := HB.out.alloc hsz (.cells #[.bool false, .bool false, .bool false, .bool false, .bool false, .bool false, .bool false, .bool false, .bool false, .bool false, .bool false, .bool false, .bool false, .bool false, .bool false, .bool false] 45)
      obtain ⟨gs, hgs⟩ : ∃ gs, wr.heap.size = gs := ⟨_, rfl⟩
      have hsg : w.heap.size ≤ gs := by omega
      rw [hgs] at hset
      simp only [hgs]
      have HS := Lib.hid hset
      have HT3 := Lib.hid hT3
      have HB3 := Lib.hid hb3
      clear hset hT3 hb3 hgs HT HB hsz
      go_loopw [9, 10] (fun x y ws => ∃ (K : Nat) (L : List (Int × Int)) (v : Value), K ≤ n1 + 1 ∧ y = .int .i64 K ∧ x = .int .i64 ((n0 - L.length : Nat) : Int) ∧ L.Sublist (filled z0 n0) ∧ Tm ws w.heap.size g v L ∧ Holds ws gs 45 (boolA (notIn n0 L)) ∧ Below w.heap.size w ws ∧ (n1 < K → L = [])) (fun _ y _ => n1 + 1 - (intOf y).toNat)
      case atStart => exact ⟨0, filled z0 n0, v, Nat.zero_le _, rfl, by rw [filled_len, Nat.sub_self]; rfl, List.Sublist.refl _, HT3.out, HS.out, HB3.out, fun h => by omega⟩
      case round =>
        obtain ⟨K, L, v2, hK, rfl, rfl, hsub, hT, hS, hb, hend⟩ := hrel
        clear HS HT3 HB3
        have hlen := hsub.length_le
        rw [filled_len] at hlen
        obtain ⟨N, hN⟩ : ∃ N, n0 - L.length = N := ⟨_, rfl⟩
        simp only [hN]
        have hN16 : N ≤ 16 := by omega
        have HNL := Lib.hid hN
        clear hN
        by_cases hle : K ≤ n1
        · have hfac : ∃ T : Int, ((K < n1 ∧ z1[K]?.getD 0 = T) ∨ (¬ K < n1 ∧ T = 9223372036854775807)) ∧ (n1 < K + 1 → restL T L = []) := by
            by_cases hlt2 : K < n1
            · exact ⟨_, .inl ⟨hlt2, rfl⟩, fun h => by omega⟩
            · exact ⟨_, .inr ⟨hlt2, rfl⟩, fun _ => all_fall hsub (range_i64 R0.out.wf)⟩
          obtain ⟨T, hTc, hlast⟩ := hfac
          have hfalls := falls_mk T hsub
          have hdue := due_any wr w.heap.size g v2 L T hT
          unfold Fell at hdue
          obtain ⟨U, hU⟩ : ∃ U, upto T L = U := ⟨_, rfl⟩
          obtain ⟨D, hD⟩ : ∃ D, dueL T L = D := ⟨_, rfl⟩
          obtain ⟨M, hM⟩ : ∃ M, restL T L = M := ⟨_, rfl⟩
          simp only [hU, hD, hM] at hdue hfalls hlast
          obtain ⟨f1, f2, f3, f4, f5⟩ := hfalls
          have HF1 := Lib.hid f1
          have HF2 := Lib.hid f2
          have HF3 := Lib.hid f3
          have HF5 := Lib.hid f5
          have HLast := Lib.hid hlast
          have HTm := Lib.hid hT
          have HSn := Lib.hid hS
          have HBl := Lib.hid hb
          have HND := Lib.hid hT.2.1.2.2.1
          have hU16 : U ≤ 16 := by omega
          have hsz := hb.size
          clear f1 f2 f3 f5 hU hD hM hlast hT hS hb hend
          have HSub := Lib.hid hsub
          clear hsub
          rcases hTc with ⟨hlt2, hTe⟩ | ⟨hlt2, rfl⟩
          · obtain ⟨b1, off1, rfl, hbw1, hc1⟩ := R1.out.cell (by omega)
            have q1 := (HBl.out.cell (p := ⟨b1, off1 + K, none⟩) hbw1).trans (hc1 K hlt2)
            rw [List.getD_eq_getElem?_getD, hTe] at q1
            clear hc1 hTe
            go_wp2_with (go_at_call 12; refine hdue.mono ?_; rintro e w3 ⟨A, c, rfl, ho, hn⟩)
            have hb3 := hn.below HTm.out HBl.out (Nat.le_refl _) hsz
            obtain ⟨v3, hT3, hc3, _⟩ := hn
            have hS3 := HSn.out.chg hc3 (HTm.out.apart HSn.out (by decide) (by decide))
            have ho3 := own_up ho (B' := w.heap.size) (fun q hq => Nat.le_trans hsz (ho.lt q hq).1)
            have HT3 := Lib.hid hT3
            have HS3 := Lib.hid hS3
            have HB3 := Lib.hid hb3
            have HO3 := Lib.hid ho3
            clear hb3 hT3 hc3 hS3 ho3 ho HTm HSn HBl hsz
            go_loopw [9, 53] (fun x y wt => ∃ j : Nat, j ≤ U ∧ y = .int .i64 j ∧ x = .int .i64 ((n0 - (L.drop j).length : Nat) : Int) ∧ Tm wt w.heap.size g v3 M ∧ Holds wt gs 45 (boolA (notIn n0 (L.drop j))) ∧ Below w.heap.size w wt ∧ wt.ownsRow w.heap.size 3 1 (.slice A U c) U (D.map (.int .i64))) (fun _ y _ => U - (intOf y).toNat)
            case atStart => exact ⟨0, Nat.zero_le _, rfl, by rw [List.drop_zero, HNL.out], HT3.out, HS3.out, HB3.out, HO3.out⟩
            case round =>
              obtain ⟨j, hj, rfl, rfl, hT, hS, hb, ho⟩ := hrel
              clear HT3 HS3 HB3 HO3
              have hdl : (L.drop j).length = L.length - j := List.length_drop
              obtain ⟨N', hN'⟩ : ∃ N', n0 - (L.drop j).length = N' := ⟨_, rfl⟩
              simp only [hN']
              have hN'16 : N' ≤ 16 := by omega
              have HNL' := Lib.hid hN'
              have HDL := Lib.hid hdl
              clear hN' hdl
              by_cases hjU : j < U
              · obtain ⟨m, hm, hDm, hzm, e, hLe, hem⟩ := HF5.out j hjU
                obtain ⟨q, rfl, _, _⟩ := own_form ho (by omega)
                have lc := own_cell ho hjU
                rw [hDm] at lc
                have sc := hS.cell m
                rw [boolA_get _ (by omega), hLe, notIn_head hem] at sc
                have sf := hS.soft m
                obtain ⟨b0, off0, rfl, hbw0, hc0⟩ := R0.out.cell (by omega)
                have q0 := (hb.cell (p := ⟨b0, off0 + m, none⟩) hbw0).trans (hc0 m hm)
                obtain ⟨Z, hZ⟩ : ∃ Z, z0[m]?.getD 0 = Z := ⟨_, rfl⟩
                rw [List.getD_eq_getElem?_getD, hZ] at q0
                rw [hZ] at hzm
                have hnd : ((e :: L.drop (j + 1)).map Prod.snd).Nodup := by rw [← hLe]; exact ((List.drop_sublist j L).map _).nodup HND.out
                have hst := notIn_step hem hm hnd
                have hS' : Holds (wr.setCell ⟨gs, m, none⟩ (.bool true)) gs 45 (boolA (notIn n0 (L.drop (j + 1)))) := by
                  have := hS.put m (.bool true)
                  rwa [hLe, hst] at this
                have hT' : Tm (wr.setCell ⟨gs, m, none⟩ (.bool true)) w.heap.size g v3 M := hT.put hS (by decide) (by decide)
                have ho' : (wr.setCell ⟨gs, m, none⟩ (.bool true)).ownsRow w.heap.size 3 1 (.slice (some ⟨q, 0, none⟩) U c) U (D.map (.int .i64)) := ho.kept (row := some gs) (grown_set _ _ _ _) (.inr (hS.own_apart ho (by decide)))
                have hb' := hb.setCell (p := ⟨gs, m, none⟩) hsg (.bool true)
                have hN1 : n0 - (L.drop (j + 1)).length = N' + 1 := by
                  have h1 := HDL.out
                  have h2 : (L.drop (j + 1)).length = L.length - (j + 1) := List.length_drop
                  have h3 := HNL'.out
                  omega
                have HS' := Lib.hid hS'
                have HT' := Lib.hid hT'
                have HO' := Lib.hid ho'
                have HB' := Lib.hid hb'
                have HN1 := Lib.hid hN1
                have hm16 : m < 16 := by omega
                have hmi : (m : Int) < 16 := by omega
                have hmn : (m : Int) < (n0 : Int) := by omega
                have hm0 : (0 : Int) ≤ (m : Int) := by omega
                have hji : (j : Int) < (U : Int) := by omega
                clear hst hnd hS hT ho hb hS' hT' ho' hb' hN1 hLe hem hDm hc0 hZ
                go_wp2
                go_roundw
                case rel => exact ⟨j + 1, by omega, by go_num, by rw [HN1.out]; go_num, HT'.out, HS'.out, HB'.out, HO'.out⟩
                case measure => simp [intOf]; omega
              · have hjU2 : j = U := by omega
                subst hjU2
                have hML := HF2.out
                have hl2 : N' = n0 - M.length := by rw [← HNL'.out, hML]
                rw [hML] at hS
                have HS2 := Lib.hid hS
                have HT2 := Lib.hid hT
                have HB2 := Lib.hid hb
                have HL2 := Lib.hid hl2
                clear hML hl2 hS hT hb ho
                go_wp2
                go_roundw
                case rel => exact ⟨K + 1, M, v3, by omega, by go_num, by rw [HL2.out], HF1.out, HT2.out, HS2.out, HB2.out, HLast.out⟩
                case measure => simp [intOf]; omega
          · go_wp2_with (go_at_call 12; refine hdue.mono ?_; rintro e w3 ⟨A, c, rfl, ho, hn⟩)
            have hb3 := hn.below HTm.out HBl.out (Nat.le_refl _) hsz
            obtain ⟨v3, hT3, hc3, _⟩ := hn
            have hS3 := HSn.out.chg hc3 (HTm.out.apart HSn.out (by decide) (by decide))
            have ho3 := own_up ho (B' := w.heap.size) (fun q hq => Nat.le_trans hsz (ho.lt q hq).1)
            have HT3 := Lib.hid hT3
            have HS3 := Lib.hid hS3
            have HB3 := Lib.hid hb3
            have HO3 := Lib.hid ho3
            clear hb3 hT3 hc3 hS3 ho3 ho HTm HSn HBl hsz
            go_loopw [9, 53] (fun x y wt => ∃ j : Nat, j ≤ U ∧ y = .int .i64 j ∧ x = .int .i64 ((n0 - (L.drop j).length : Nat) : Int) ∧ Tm wt w.heap.size g v3 M ∧ Holds wt gs 45 (boolA (notIn n0 (L.drop j))) ∧ Below w.heap.size w wt ∧ wt.ownsRow w.heap.size 3 1 (.slice A U c) U (D.map (.int .i64))) (fun _ y _ => U - (intOf y).toNat)
            case atStart => exact ⟨0, Nat.zero_le _, rfl, by rw [List.drop_zero, HNL.out], HT3.out, HS3.out, HB3.out, HO3.out⟩
            case round =>
              obtain ⟨j, hj, rfl, rfl, hT, hS, hb, ho⟩ := hrel
              clear HT3 HS3 HB3 HO3
              have hdl : (L.drop j).length = L.length - j := List.length_drop
              obtain ⟨N', hN'⟩ : ∃ N', n0 - (L.drop j).length = N' := ⟨_, rfl⟩
              simp only [hN']
              have hN'16 : N' ≤ 16 := by omega
              have HNL' := Lib.hid hN'
              have HDL := Lib.hid hdl
              clear hN' hdl
              by_cases hjU : j < U
              · obtain ⟨m, hm, hDm, hzm, e, hLe, hem⟩ := HF5.out j hjU
                obtain ⟨q, rfl, _, _⟩ := own_form ho (by omega)
                have lc := own_cell ho hjU
                rw [hDm] at lc
                have sc := hS.cell m
                rw [boolA_get _ (by omega), hLe, notIn_head hem] at sc
                have sf := hS.soft m
                obtain ⟨b0, off0, rfl, hbw0, hc0⟩ := R0.out.cell (by omega)
                have q0 := (hb.cell (p := ⟨b0, off0 + m, none⟩) hbw0).trans (hc0 m hm)
                obtain ⟨Z, hZ⟩ : ∃ Z, z0[m]?.getD 0 = Z := ⟨_, rfl⟩
                rw [List.getD_eq_getElem?_getD, hZ] at q0
                rw [hZ] at hzm
                have hnd : ((e :: L.drop (j + 1)).map Prod.snd).Nodup := by rw [← hLe]; exact ((List.drop_sublist j L).map _).nodup HND.out
                have hst := notIn_step hem hm hnd
                have hS' : Holds (wr.setCell ⟨gs, m, none⟩ (.bool true)) gs 45 (boolA (notIn n0 (L.drop (j + 1)))) := by
                  have := hS.put m (.bool true)
                  rwa [hLe, hst] at this
                have hT' : Tm (wr.setCell ⟨gs, m, none⟩ (.bool true)) w.heap.size g v3 M := hT.put hS (by decide) (by decide)
                have ho' : (wr.setCell ⟨gs, m, none⟩ (.bool true)).ownsRow w.heap.size 3 1 (.slice (some ⟨q, 0, none⟩) U c) U (D.map (.int .i64)) := ho.kept (row := some gs) (grown_set _ _ _ _) (.inr (hS.own_apart ho (by decide)))
                have hb' := hb.setCell (p := ⟨gs, m, none⟩) hsg (.bool true)
                have hN1 : n0 - (L.drop (j + 1)).length = N' + 1 := by
                  have h1 := HDL.out
                  have h2 : (L.drop (j + 1)).length = L.length - (j + 1) := List.length_drop
                  have h3 := HNL'.out
                  omega
                have HS' := Lib.hid hS'
                have HT' := Lib.hid hT'
                have HO' := Lib.hid ho'
                have HB' := Lib.hid hb'
                have HN1 := Lib.hid hN1
                have hm16 : m < 16 := by omega
                have hmi : (m : Int) < 16 := by omega
                have hmn : (m : Int) < (n0 : Int) := by omega
                have hm0 : (0 : Int) ≤ (m : Int) := by omega
                have hji : (j : Int) < (U : Int) := by omega
                clear hst hnd hS hT ho hb hS' hT' ho' hb' hN1 hLe hem hDm hc0 hZ
                go_wp2
                go_roundw
                case rel => exact ⟨j + 1, by omega, by go_num, by rw [HN1.out]; go_num, HT'.out, HS'.out, HB'.out, HO'.out⟩
                case measure => simp [intOf]; omega
              · have hjU2 : j = U := by omega
                subst hjU2
                have hML := HF2.out
                have hl2 : N' = n0 - M.length := by rw [← HNL'.out, hML]
                rw [hML] at hS
                have HS2 := Lib.hid hS
                have HT2 := Lib.hid hT
                have HB2 := Lib.hid hb
                have HL2 := Lib.hid hl2
                clear hML hl2 hS hT hb ho
                go_wp2
                go_roundw
                case rel => exact ⟨K + 1, M, v3, by omega, by go_num, by rw [HL2.out], HF1.out, HT2.out, HS2.out, HB2.out, HLast.out⟩
                case measure => simp [intOf]; omega
        · have hL := hend (by omega)
          subst hL
          have hNn : N = n0 := by rw [← HNL.out]; simp
          subst hNn
          have hl := len_any wr w.heap.size g v2 [] hT
          have HBl := Lib.hid hb
          clear hT hS hb hend hsub hlen
          go_wp2_with (go_at_call 14; refine hl.mono ?_; rintro e w3 ⟨rfl, rfl⟩)
          go_ret
          exact ⟨rfl, HBl.out⟩

set_option maxRecDepth 100000 in
theorem lifted (os : Os) (started : os.Started) (H : Type) (enc : TypeId × Value → H) :
    ReturnsInHanded {} Try.checked os 4 .any (Rows.timerOnceSpec.pre6 enc Try.prog Try.f4 Rows.timerOnceRow.domain false) (Rows.timerOnceSpec.post enc Try.prog Try.f4 false true false false) := by
  refine returnsInHanded_of_change (C := Try.checked) own started (by kernel_rfl) Try.func4
    (ChangeSpec.witness6 (enc := enc) (C := Try.checked) false ⟨#[], #[.slice none 0 0, .slice none 0 0], []⟩ 8 (by kernel_rfl) (by kernel_rfl) (by kernel_rfl) (by kernel_rfl)) ?_
  intro W base args ds gs before hval0 hW hcnd _
  have hval : ∀ (j : Nat) t v, Try.f4.params[j]? = some t → args[j]? = some v → Value.okWide Try.prog W .any base t v := hval0
  have hW' := hW
  obtain ⟨p, q, hA0, hV, rfl, hfz, hnd⟩ := hW
  have hA : DataW.TrodAll enc Try.prog W 0 (fun _ => true) true Try.f4.params.toList args.toList ds p := hA0
  have hAk := hA
  rw [Try.params4] at hA hval
  obtain ⟨v0, vs0, d0, ds0, p0, q0, hargs, rfl, hp, h0, r0⟩ := trodAll_cons hA
  obtain ⟨v1, vs1, d1, ds1, p1, q1, rfl, rfl, rfl, h1, r1⟩ := trodAll_cons r0
  obtain ⟨rfl, rfl, rfl⟩ := trodAll_nil r1
  obtain rfl : args = #[v0, v1] := by cases args; simp_all
  obtain ⟨rfl, rfl⟩ := trodVars_none hV
  clear hA0 hval0 hargs
  simp only [List.append_nil] at hW'
  have hend : ∀ W' : World, Below W.heap.size W W' → Rows.timerOnceSpec.post enc Try.prog Try.f4 false true false false W #[v0, v1] (.bool true) W' := fun W' hb =>
    law_post (tb := 4) hW' hAk rfl (by kernel_rfl) (by kernel_rfl) (by kernel_rfl) Try.underlying4 rfl rfl rfl hb
  clear hW' hAk hp
  obtain ⟨A0, n0, c0, z0, rfl, w0⟩ := ints_arg Try.underlying38 Try.underlying3 (by kernel_rfl) (hval 0 38 v0 rfl rfl) h0
  obtain ⟨A1, n1, c1, z1, rfl, w1⟩ := ints_arg Try.underlying38 Try.underlying3 (by kernel_rfl) (hval 1 38 v1 rfl rfl) h1
  refine (walk A0 n0 c0 z0 A1 n1 c1 z1 W w0 w1).mono fun e W' ⟨he, hg⟩ => ?_
  subst he
  exact ⟨_, rfl, hend W' hg⟩

theorem over : Rows.timerOnceRow.holds Try.pinned (OpenSpec.ofChange Rows.timerOnceSpec) :=
  OpenClaim.holds_of_wide 4 Try.f4 rfl rfl rfl rfl rfl rfl rfl ⟨rfl, rfl, rfl, rfl, rfl⟩ rfl rfl rfl rfl rfl (by kernel_rfl) Try.func4 (by kernel_rfl)
    (of_decide_eq_true (by kernel_rfl)) (by unfold Func.isWrapper; first | (rw [if_pos (by decide +kernel)]; kernel_rfl) | (rw [if_neg (by decide +kernel)]; exact ⟨rfl, rfl⟩))
    (fun os started H enc _ => lifted os started H enc)

/-- THE STATEMENT -/
theorem proved : Rows.TimerOnceSaid :=
  over
#print axioms proved
end Go.Proofs.Ytfpjicmmnhcfcaa.timerOnce

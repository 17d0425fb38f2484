/- Package leap: the document's Parse. WRITTEN by mklrb.py. -/
import Derived.Test.YtiglhmdiiajmhaaDoorLrA
namespace Go.Proofs.YtiglhmdiiajmhaaDoor
open Go.RowKit Go.Shelf
set_option linter.unusedVariables false
set_option linter.unusedSimpArgs false
attribute [local go_sem] Oper.semAt_some

theorem rlp_info : (Tryd.prog.info? 50).map (fun i => (i.zero, i.size, i.bytes)) = some (some (.agg #[.int .i64 0, .int .i64 0]), 2, 16) := by kernel_rfl
theorem lit_eq (x : ByteArray) {B : ByteArray} {l : List UInt8} (h : B.data.toList = l) : (x.toList == l) = decide (x = B) := by
  rw [← text_eq, Lib.toList_data B, h]
theorem lit_yes {x B : ByteArray} {l : List UInt8} (h : B.data.toList = l) (hx : x = B) : (x.toList == l) = true ∧ (x.toList != l) = false := by
  have h1 : (x.toList == l) = true := by rw [lit_eq x h]; exact decide_eq_true hx
  exact ⟨h1, by rw [bne, h1]; rfl⟩
theorem lit_no {x B : ByteArray} {l : List UInt8} (h : B.data.toList = l) (hx : ¬ x = B) : (x.toList == l) = false ∧ (x.toList != l) = true := by
  have h1 : (x.toList == l) = false := by rw [lit_eq x h]; exact decide_eq_false hx
  exact ⟨h1, by rw [bne, h1]; rfl⟩
theorem last_cell {w W : World} {BL b : Nat} {cur : List Value} {T : TB} {A : Option Addr} {c : Nat} (h : DRun w BL b cur T A c W) {ba oa i : Nat} {x y : Int} (hA : A = some ⟨ba, oa, none⟩) (he : T.lp[i]? = some (x, y)) : W.cell? ⟨ba, oa + i * 2, none⟩ = some (.int .i64 x) := by
  obtain ⟨b', o', e1, _, h0, _⟩ := (PRow.of_own h.own).at he
  rw [hA] at e1
  simp only [Option.some.injEq, Addr.mk.injEq, and_true] at e1
  obtain ⟨rfl, rfl⟩ := e1
  exact h0
theorem filled {w W : World} {BL b : Nat} {cur : List Value} {T : TB} {A : Option Addr} {c : Nat} (h : DRun w BL b cur T A c W) :
    Holds ((((W.setCell ⟨w.heap.size, 0, none⟩ (.int .i64 T.st)).setCell ⟨w.heap.size, 1, none⟩ (.int .i64 T.ah)).setCell ⟨w.heap.size, 2, none⟩ (.int .i64 T.en)).setCell ⟨w.heap.size, 3, none⟩ (.slice A T.lp.length c)) w.heap.size 24 #[.int .i64 T.st, .int .i64 T.ah, .int .i64 T.en, .slice A T.lp.length c] ∧
    PRow ((((W.setCell ⟨w.heap.size, 0, none⟩ (.int .i64 T.st)).setCell ⟨w.heap.size, 1, none⟩ (.int .i64 T.ah)).setCell ⟨w.heap.size, 2, none⟩ (.int .i64 T.en)).setCell ⟨w.heap.size, 3, none⟩ (.slice A T.lp.length c)) A T.lp.length c T.lp ∧
    Below w.heap.size w ((((W.setCell ⟨w.heap.size, 0, none⟩ (.int .i64 T.st)).setCell ⟨w.heap.size, 1, none⟩ (.int .i64 T.ah)).setCell ⟨w.heap.size, 2, none⟩ (.int .i64 T.en)).setCell ⟨w.heap.size, 3, none⟩ (.slice A T.lp.length c)) := by
  have hg : ∀ q, (Value.slice A T.lp.length c).ownBlock = some q → ¬ q = w.heap.size := fun q hq e => by
    have := (h.own.lt q hq).1
    have := h.hb
    have := h.hB
    omega
  refine ⟨(((h.res.put 0 _).put 1 _).put 2 _).put 3 _, PRow.of_own (own_chg (own_chg (own_chg (own_chg h.own (Chg.set (S := fun k => k = w.heap.size) _ _ 0 _ rfl) hg) (Chg.set (S := fun k => k = w.heap.size) _ _ 1 _ rfl) hg) (Chg.set (S := fun k => k = w.heap.size) _ _ 2 _ rfl) hg) (Chg.set (S := fun k => k = w.heap.size) _ _ 3 _ rfl) hg), ?_⟩
  exact (((h.old.setCell (p := ⟨w.heap.size, 0, none⟩) (Nat.le_refl _) _).setCell (p := ⟨w.heap.size, 1, none⟩) (Nat.le_refl _) _).setCell (p := ⟨w.heap.size, 2, none⟩) (Nat.le_refl _) _).setCell (p := ⟨w.heap.size, 3, none⟩) (Nat.le_refl _) _
/-- A row of texts of a call's own that is not empty. -/
theorem own_all {w : World} {B : Nat} {e : TypeId} {A : Option Addr} {n c : Nat} {L : List ByteArray} (h : w.ownsRow B e 1 (.slice A n c) n (sts L)) (hn : 1 ≤ n) :
    ∃ (b : Nat) (cur : List Value), A = some ⟨b, 0, none⟩ ∧ B ≤ b ∧ n ≤ c ∧ c ≤ maxLen ∧ Holds w b e cur.toArray ∧ ∀ (i : Nat) (x : ByteArray), L[i]? = some x → cur.toArray[i]? = some (.string x) := by
  have hl := h.1
  rw [sts_len] at hl
  rcases own_open h with ⟨e1, h0, _⟩ | ⟨g, cap, cur, e1, hB, hH, hnc, hcm, hcl, hct⟩
  · omega
  · simp only [Value.slice.injEq, true_and] at e1
    obtain ⟨rfl, rfl⟩ := e1
    refine ⟨g, cur, rfl, hB, hnc, hcm, hH, fun i x hx => ?_⟩
    have hlt := (List.getElem?_eq_some_iff.1 hx).1
    rw [List.getElem?_toArray, ← sts_get hx, ← hct, List.getElem?_take, if_pos (by omega)]
theorem drun_start {w w1 : World} {b : Nat} {cur : List Value} (hb : Below (w.heap.size + 2) ((w.alloc (.cells #[.int .i64 0, .int .i64 0, .int .i64 0, .slice none 0 0] 24)).alloc (.cells #[.int .i64 0, .int .i64 0, .int .i64 0, .slice none 0 0] 24)) w1) (hh : Holds w1 b 9 cur.toArray) (hB : w.heap.size + 2 ≤ b) :
    DRun w w1.heap.size b cur TB.zero none 0 w1 := by
  have h0 := (Holds.new w 24 #[.int .i64 0, .int .i64 0, .int .i64 0, .slice none 0 0]).alloc (.cells #[.int .i64 0, .int .i64 0, .int .i64 0, .slice none 0 0] 24)
  have h1 := Holds.new (w.alloc (.cells #[.int .i64 0, .int .i64 0, .int .i64 0, .slice none 0 0] 24)) 24 #[.int .i64 0, .int .i64 0, .int .i64 0, .slice none 0 0]
  rw [size_alloc] at h1
  have ho : Below w.heap.size w ((w.alloc (.cells #[.int .i64 0, .int .i64 0, .int .i64 0, .slice none 0 0] 24)).alloc (.cells #[.int .i64 0, .int .i64 0, .int .i64 0, .slice none 0 0] 24)) := (below_alloc w _).alloc (by simp) _
  exact ⟨h0.below hb (by omega), h1.below hb (by omega), World.ownsRow_nil _ _ _ _, hh, hB, hh.lt, Nat.le_refl _, ho.trans (hb.mono (by omega))⟩
set_option maxRecDepth 100000 in
set_option maxHeartbeats 16000000 in
theorem rread_any (s : ByteArray) (w : World) (hT : Tab w) : Calls Tryd.prog 20 #[.string s] w (RPost s w) := by
  by_cases hl : 16384 < s.size
  · exact rread_long s w hl
  have h1 : decide ((16384 : Int) < (s.size : Int)) = false := decide_eq_false (by omega)
  have HP := Lib.hid (show parseR s = walkR 0 TB.zero (pcs 10 s) 0 by unfold parseR; rw [if_neg hl])
  have HLn := Lib.hid (show 1 ≤ (pcs 10 s).length ∧ (pcs 10 s).length ≤ 16385 by have := pcs_len 10 s; omega)
  have HSh := Lib.hid (show ∀ x ∈ pcs 10 s, x.size ≤ 16384 from fun x hx => Nat.le_trans (pcs_size 10 s x hx) (by omega))
  have HT := Lib.hid hT
  have HPC := Lib.hid (show ∀ W, Calls Tryd.prog 21 #[.string s, .int .u8 10] W fun e w' => ∃ A cap, e = .returned (.slice A (pcs 10 s).length cap) ∧ w'.ownsRow W.heap.size 9 1 (.slice A (pcs 10 s).length cap) (pcs 10 s).length (sts (pcs 10 s)) ∧ Below W.heap.size W w' from fun W => pieces_any s 10 W (by omega))
  obtain ⟨L, hL⟩ : ∃ L, pcs 10 s = L := ⟨_, rfl⟩
  rw [hL] at HP HLn HSh HPC
  obtain ⟨n, hn⟩ : ∃ n, L.length = n := ⟨_, rfl⟩
  rw [hn] at HLn HPC
  have HNn := Lib.hid hn
  clear hl hT hL hn
  go_enter Tryd.func20, Tryd.ntmps20
  go_wp2_with (go_at_call 21; refine (HPC.out _).mono ?_; rintro e w1 ⟨A1, c1, rfl, hown, hb1⟩; obtain ⟨b, cur, rfl, hBb, hcap, hmax, hh, hcur⟩ := own_all hown HLn.out.1; simp only [size_alloc] at hb1 hBb; have HD := Lib.hid (drun_start hb1 hh hBb); have HCur := Lib.hid hcur; clear hown hb1 hh hcur)
  obtain ⟨BL, hBL⟩ : ∃ BL, w1.heap.size = BL := ⟨_, rfl⟩
  rw [hBL] at HD
  clear hBL h1
  unfold maxLen at hmax
  go_loopw [6, 23] (fun vs vi wr => ∃ (k st : Nat) (T : TB) (A : Option Addr) (c : Nat), k ≤ n ∧ vi = .int .i64 (k : Int) ∧ vs = .int .i64 (st : Int) ∧ st ≤ 2 ∧ PInv st T ∧ walkR st T (L.drop k) k = parseR s ∧ DRun w BL b cur T A c wr) (fun _ i _ => n - (intOf i).toNat)
  case atStart => exact ⟨0, 0, TB.zero, none, 0, Nat.zero_le _, rfl, rfl, by decide, pinv_zero, by rw [List.drop_zero, HP.out], HD.out⟩
  case round =>
    clear HD
    obtain ⟨k, st, T, A, c, hk, rfl, rfl, hst, hinv, hw, hd⟩ := hrel
    have HD := Lib.hid hd
    have HI := Lib.hid hinv
    have hnn := HLn.out.2
    by_cases hlt : k < n
    · obtain ⟨l, hl⟩ : ∃ x, L[k]? = some x := ⟨_, List.getElem?_eq_getElem (by have := HNn.out; omega)⟩
      rw [drop_one hl] at hw
      have hls := HSh.out l (List.mem_of_getElem? hl)
      have hcell : wr.cell? ⟨b, k, none⟩ = some (.string l) := (hd.lns.cell k).trans (HCur.out k l hl)
      have hki : (k : Int) < (n : Int) := by omega
      have ew := IntWalk.i64_in ((k : Int) + 1) (by omega)
      have HKL := Lib.hid (show k + 1 ≤ n by omega)
      clear hd hinv hk hl
      by_cases hsk : skipB l = true
      · rw [walk_skip hsk] at hw
        have HW := Lib.hid hw
        rcases skip_yes hsk with h0 | ⟨h0, h35⟩
        · have he := empty_yes h0
          clear hsk hw h0
          as_aux_lemma =>
            go_wp2
            go_roundw
            case rel => exact ⟨k + 1, st, T, A, c, HKL.out, by go_num, rfl, hst, HI.out, HW.out, HD.out⟩
            case measure => simp [intOf]; omega
        · have he := empty_no h0
          have hby := run_byte' l h0
          rw [h35] at hby
          clear hsk hw h0 h35
          as_aux_lemma =>
            go_wp2
            go_roundw
            case rel => exact ⟨k + 1, st, T, A, c, HKL.out, by go_num, rfl, hst, HI.out, HW.out, HD.out⟩
            case measure => simp [intOf]; omega
      · have hsk' : skipB l = false := by simpa using hsk
        obtain ⟨h0, h35⟩ := skip_no hsk'
        have he := empty_no h0
        have hby := run_byte' l h0
        have hne := beq_no h35
        obtain ⟨B0, hB0⟩ : ∃ B, byt l 0 = B := ⟨_, rfl⟩
        rw [hB0] at hby hne
        have HBad := Lib.hid (show ∀ c, lineR st T (pcs 32 l) = .error c → parseR s = .error (k + 1, c) from fun c h => by rw [← hw]; exact walk_bad hsk' h)
        have HGood := Lib.hid (show ∀ s' T', lineR st T (pcs 32 l) = .ok (s', T') → walkR s' T' (L.drop (k + 1)) (k + 1) = parseR s ∧ PInv s' T' from fun s' T' h => ⟨by rw [← hw, walk_good hsk' h], (HI.out.line h).1⟩)
        have HPW := Lib.hid (show ∀ W, Calls Tryd.prog 21 #[.string l, .int .u8 32] W fun e w' => ∃ A cap, e = .returned (.slice A (pcs 32 l).length cap) ∧ w'.ownsRow W.heap.size 9 1 (.slice A (pcs 32 l).length cap) (pcs 32 l).length (sts (pcs 32 l)) ∧ Below W.heap.size W w' from fun W => pieces_any l 32 W (by omega))
        have hwl := pcs_len 32 l
        have HWS := Lib.hid (pcs_size 32 l)
        obtain ⟨ws, hws⟩ : ∃ ws, pcs 32 l = ws := ⟨_, rfl⟩
        rw [hws] at HBad HGood HPW hwl HWS
        obtain ⟨N, hN⟩ : ∃ N, ws.length = N := ⟨_, rfl⟩
        rw [hN] at HPW hwl
        have HNN := Lib.hid hN
        have HW1 := Lib.hid hwl.1
        have hN2 := hwl.2
        clear hsk hsk' h0 h35 hB0 hw hws hwl
        by_cases hN1 : N ≤ 1
        · have n1 : decide (1 < N) = false := decide_eq_false (by omega)
          have n1' : decide ((1 : Int) < (N : Int)) = false := decide_eq_false (by omega)
          as_aux_lemma =>
            have HE := Lib.hid (HBad.out 3 (line_short (by rw [HNN.out]; exact hN1)))
            go_wp2_with (first
              | (go_at_call 21; refine (HPW.out _).mono ?_; rintro e w2 ⟨A2, c2, rfl, hown, hb2⟩; obtain ⟨b2, cur2, rfl, hBb2, hcap2, hmax2, hh2, hc2⟩ := own_all hown HW1.out; have HBB := Lib.hid (show w.heap.size + 2 ≤ b2 from Nat.le_trans (by have := HD.out.base; have := HD.out.hb; have := HD.out.hB; omega) hBb2); have HD := Lib.hid (HD.out.next hb2); have HH := Lib.hid hh2; have HC2 := Lib.hid hc2; clear hown hb2 hh2 hc2 hBb2; obtain ⟨t0, t1, t2, t3, u0, u1, u2, u3, r0, r1, r2, r3, v0, v1, v2, v3⟩ := HD.out.facts))
            refine bodyPost_ret (rres_out HD.out.wiped.1 rfl rfl rfl rfl _ rfl rfl rfl) rfl ?_
            exact ⟨.inr ⟨k + 1, 3, HE.out, rfl⟩, HD.out.wiped.2⟩
        have n1 : decide (1 < N) = true := decide_eq_true (by omega)
        have n1' : (1 : Int) < (N : Int) := by omega
        have n0' : (0 : Int) < (N : Int) := by omega
        obtain ⟨x, hx0⟩ : ∃ x, ws[0]? = some x := ⟨_, List.getElem?_eq_getElem (by have := HNN.out; omega)⟩
        have HX0 := Lib.hid hx0
        obtain ⟨y, hx1⟩ : ∃ x, ws[1]? = some x := ⟨_, List.getElem?_eq_getElem (by have := HNN.out; omega)⟩
        have HX1 := Lib.hid hx1
        have HYS := Lib.hid (show y.size ≤ maxLen from Nat.le_trans (HWS.out y (List.mem_of_getElem? hx1)) (by unfold maxLen; omega))
        clear hx0 hx1
        cases hdy : dayOf y with
        | none =>
          have HDY := Lib.hid (fun W => rday_no y W hdy HYS.out)
          as_aux_lemma =>
            have HE := Lib.hid (HBad.out 3 (line_noday HX1.out hdy))
            go_wp2_with (first
              | (go_at_call 21; refine (HPW.out _).mono ?_; rintro e w2 ⟨A2, c2, rfl, hown, hb2⟩; obtain ⟨b2, cur2, rfl, hBb2, hcap2, hmax2, hh2, hc2⟩ := own_all hown HW1.out; have HBB := Lib.hid (show w.heap.size + 2 ≤ b2 from Nat.le_trans (by have := HD.out.base; have := HD.out.hb; have := HD.out.hB; omega) hBb2); have HD := Lib.hid (HD.out.next hb2); have HH := Lib.hid hh2; have HC2 := Lib.hid hc2; clear hown hb2 hh2 hc2 hBb2; obtain ⟨t0, t1, t2, t3, u0, u1, u2, u3, r0, r1, r2, r3, v0, v1, v2, v3⟩ := HD.out.facts; have y0 := (HH.out.cell 0).trans (HC2.out 0 x HX0.out); have y1 := (HH.out.cell 1).trans (HC2.out 1 y HX1.out))
              | (go_at_call 32; refine (HDY.out _).mono ?_; rintro e w3 ⟨rfl, hb3⟩; have HD := Lib.hid (HD.out.next hb3); have HH := Lib.hid (HH.out.below hb3 HH.out.lt); clear hb3; clear t0 t1 t2 t3 u0 u1 u2 u3 r0 r1 r2 r3 v0 v1 v2 v3; clear y0 y1; obtain ⟨t0, t1, t2, t3, u0, u1, u2, u3, r0, r1, r2, r3, v0, v1, v2, v3⟩ := HD.out.facts; have y0 := (HH.out.cell 0).trans (HC2.out 0 x HX0.out); have y1 := (HH.out.cell 1).trans (HC2.out 1 y HX1.out)))
            refine bodyPost_ret (rres_out HD.out.wiped.1 rfl rfl rfl rfl _ rfl rfl rfl) rfl ?_
            exact ⟨.inr ⟨k + 1, 3, HE.out, rfl⟩, HD.out.wiped.2⟩
        | some d =>
          have HDY := Lib.hid (fun W => rday_yes y d W hdy)
          have HDD := Lib.hid hdy
          clear hdy
          have hcs : st = 2 ∨ st = 0 ∨ st = 1 := by omega
          clear hst
          rcases hcs with rfl | rfl | rfl
          · as_aux_lemma =>
              have HE := Lib.hid (HBad.out 3 (line_two))
              go_wp2_with (first
                | (go_at_call 21; refine (HPW.out _).mono ?_; rintro e w2 ⟨A2, c2, rfl, hown, hb2⟩; obtain ⟨b2, cur2, rfl, hBb2, hcap2, hmax2, hh2, hc2⟩ := own_all hown HW1.out; have HBB := Lib.hid (show w.heap.size + 2 ≤ b2 from Nat.le_trans (by have := HD.out.base; have := HD.out.hb; have := HD.out.hB; omega) hBb2); have HD := Lib.hid (HD.out.next hb2); have HH := Lib.hid hh2; have HC2 := Lib.hid hc2; clear hown hb2 hh2 hc2 hBb2; obtain ⟨t0, t1, t2, t3, u0, u1, u2, u3, r0, r1, r2, r3, v0, v1, v2, v3⟩ := HD.out.facts; have y0 := (HH.out.cell 0).trans (HC2.out 0 x HX0.out); have y1 := (HH.out.cell 1).trans (HC2.out 1 y HX1.out))
                | (go_at_call 32; refine (HDY.out _).mono ?_; rintro e w3 ⟨rfl, hb3⟩; have HD := Lib.hid (HD.out.next hb3); have HH := Lib.hid (HH.out.below hb3 HH.out.lt); clear hb3; clear t0 t1 t2 t3 u0 u1 u2 u3 r0 r1 r2 r3 v0 v1 v2 v3; clear y0 y1; obtain ⟨t0, t1, t2, t3, u0, u1, u2, u3, r0, r1, r2, r3, v0, v1, v2, v3⟩ := HD.out.facts; have y0 := (HH.out.cell 0).trans (HC2.out 0 x HX0.out); have y1 := (HH.out.cell 1).trans (HC2.out 1 y HX1.out)))
              refine bodyPost_ret (rres_out HD.out.wiped.1 rfl rfl rfl rfl _ rfl rfl rfl) rfl ?_
              exact ⟨.inr ⟨k + 1, 3, HE.out, rfl⟩, HD.out.wiped.2⟩
          · by_cases hN3 : N = 3
            · subst hN3
              obtain ⟨z, hx2⟩ : ∃ x, ws[2]? = some x := ⟨_, List.getElem?_eq_getElem (by have := HNN.out; omega)⟩
              have HX2 := Lib.hid hx2
              have h3 := line_start3 (T := T) (x := x) (z := z) HDD.out
              rw [← three_of HNN.out HX0.out HX1.out hx2] at h3
              have HSM := Lib.hid (fun W hW => rsmall_any z W hW)
              clear hx2
              by_cases hxs : x = startB
              · rw [if_pos hxs] at h3
                obtain ⟨hxb, hxb2⟩ := lit_yes (l := [115, 116, 97, 114, 116]) (B := startB) rfl hxs
                cases hsm : smallOf z with
                | none =>
                  rw [hsm] at h3
                  have hsv : smallV z = -1 := by unfold smallV; rw [hsm]
                  rw [hsv] at HSM
                  have H3 := Lib.hid h3
                  clear h3 hsm hsv hxs
                  as_aux_lemma =>
                    have HE := Lib.hid (HBad.out 3 (H3.out))
                    go_wp2_with (first
                      | (go_at_call 21; refine (HPW.out _).mono ?_; rintro e w2 ⟨A2, c2, rfl, hown, hb2⟩; obtain ⟨b2, cur2, rfl, hBb2, hcap2, hmax2, hh2, hc2⟩ := own_all hown HW1.out; have HBB := Lib.hid (show w.heap.size + 2 ≤ b2 from Nat.le_trans (by have := HD.out.base; have := HD.out.hb; have := HD.out.hB; omega) hBb2); have HD := Lib.hid (HD.out.next hb2); have HH := Lib.hid hh2; have HC2 := Lib.hid hc2; clear hown hb2 hh2 hc2 hBb2; obtain ⟨t0, t1, t2, t3, u0, u1, u2, u3, r0, r1, r2, r3, v0, v1, v2, v3⟩ := HD.out.facts; have y0 := (HH.out.cell 0).trans (HC2.out 0 x HX0.out); have y1 := (HH.out.cell 1).trans (HC2.out 1 y HX1.out); have y2 := (HH.out.cell 2).trans (HC2.out 2 z HX2.out))
                      | (go_at_call 32; refine (HDY.out _).mono ?_; rintro e w3 ⟨rfl, hb3⟩; have HD := Lib.hid (HD.out.next hb3); have HH := Lib.hid (HH.out.below hb3 HH.out.lt); clear hb3; clear t0 t1 t2 t3 u0 u1 u2 u3 r0 r1 r2 r3 v0 v1 v2 v3; clear y0 y1 y2; obtain ⟨t0, t1, t2, t3, u0, u1, u2, u3, r0, r1, r2, r3, v0, v1, v2, v3⟩ := HD.out.facts; have y0 := (HH.out.cell 0).trans (HC2.out 0 x HX0.out); have y1 := (HH.out.cell 1).trans (HC2.out 1 y HX1.out); have y2 := (HH.out.cell 2).trans (HC2.out 2 z HX2.out))
                      | (go_at_call 33; with_reducible refine (HSM.out _ (HT.out.below HD.out.old)).mono ?_; rintro e w4 ⟨rfl, hb4⟩; have HD := Lib.hid (HD.out.next hb4); have HH := Lib.hid (HH.out.below hb4 HH.out.lt); clear hb4; clear t0 t1 t2 t3 u0 u1 u2 u3 r0 r1 r2 r3 v0 v1 v2 v3; clear y0 y1 y2; obtain ⟨t0, t1, t2, t3, u0, u1, u2, u3, r0, r1, r2, r3, v0, v1, v2, v3⟩ := HD.out.facts; have y0 := (HH.out.cell 0).trans (HC2.out 0 x HX0.out); have y1 := (HH.out.cell 1).trans (HC2.out 1 y HX1.out); have y2 := (HH.out.cell 2).trans (HC2.out 2 z HX2.out)))
                    refine bodyPost_ret (rres_out HD.out.wiped.1 rfl rfl rfl rfl _ rfl rfl rfl) rfl ?_
                    exact ⟨.inr ⟨k + 1, 3, HE.out, rfl⟩, HD.out.wiped.2⟩
                | some m =>
                  rw [hsm] at h3
                  have hsv : smallV z = m := by unfold smallV; rw [hsm]
                  have hmb := small_bd hsm
                  have hm0 : decide (m < 0) = false := decide_eq_false (by omega)
                  rw [hsv] at HSM
                  have HG := Lib.hid (HGood.out _ _ h3)
                  clear h3 hsm hsv hxs hmb
                  as_aux_lemma =>
                    go_wp2_with (first
                      | (go_at_call 21; refine (HPW.out _).mono ?_; rintro e w2 ⟨A2, c2, rfl, hown, hb2⟩; obtain ⟨b2, cur2, rfl, hBb2, hcap2, hmax2, hh2, hc2⟩ := own_all hown HW1.out; have HBB := Lib.hid (show w.heap.size + 2 ≤ b2 from Nat.le_trans (by have := HD.out.base; have := HD.out.hb; have := HD.out.hB; omega) hBb2); have HD := Lib.hid (HD.out.next hb2); have HH := Lib.hid hh2; have HC2 := Lib.hid hc2; clear hown hb2 hh2 hc2 hBb2; obtain ⟨t0, t1, t2, t3, u0, u1, u2, u3, r0, r1, r2, r3, v0, v1, v2, v3⟩ := HD.out.facts; have y0 := (HH.out.cell 0).trans (HC2.out 0 x HX0.out); have y1 := (HH.out.cell 1).trans (HC2.out 1 y HX1.out); have y2 := (HH.out.cell 2).trans (HC2.out 2 z HX2.out))
                      | (go_at_call 32; refine (HDY.out _).mono ?_; rintro e w3 ⟨rfl, hb3⟩; have HD := Lib.hid (HD.out.next hb3); have HH := Lib.hid (HH.out.below hb3 HH.out.lt); clear hb3; clear t0 t1 t2 t3 u0 u1 u2 u3 r0 r1 r2 r3 v0 v1 v2 v3; clear y0 y1 y2; obtain ⟨t0, t1, t2, t3, u0, u1, u2, u3, r0, r1, r2, r3, v0, v1, v2, v3⟩ := HD.out.facts; have y0 := (HH.out.cell 0).trans (HC2.out 0 x HX0.out); have y1 := (HH.out.cell 1).trans (HC2.out 1 y HX1.out); have y2 := (HH.out.cell 2).trans (HC2.out 2 z HX2.out))
                      | (go_at_call 33; with_reducible refine (HSM.out _ (HT.out.below HD.out.old)).mono ?_; rintro e w4 ⟨rfl, hb4⟩; have HD := Lib.hid (HD.out.next hb4); have HH := Lib.hid (HH.out.below hb4 HH.out.lt); clear hb4; clear t0 t1 t2 t3 u0 u1 u2 u3 r0 r1 r2 r3 v0 v1 v2 v3; clear y0 y1 y2; obtain ⟨t0, t1, t2, t3, u0, u1, u2, u3, r0, r1, r2, r3, v0, v1, v2, v3⟩ := HD.out.facts; have y0 := (HH.out.cell 0).trans (HC2.out 0 x HX0.out); have y1 := (HH.out.cell 1).trans (HC2.out 1 y HX1.out); have y2 := (HH.out.cell 2).trans (HC2.out 2 z HX2.out); have y2s := ((HH.out.far (by have := HBB.out; omega) _ : Holds (w4.setCell ⟨w.heap.size + 1, 0, none⟩ (.int .i64 d)) b2 9 cur2.toArray).cell 2).trans (HC2.out 2 z HX2.out))
                      | (go_at_call 33; (have HD := Lib.hid (HD.out.put 0 (.int .i64 d) ⟨d, T.ah, T.en, T.lp⟩ rfl (fun x => rfl))); with_reducible refine (HSM.out _ (HT.out.below HD.out.old)).mono ?_; rintro e w5 ⟨rfl, hb5⟩; have HD := Lib.hid (HD.out.next hb5); clear hb5 y0 y1 y2 y2s; clear t0 t1 t2 t3 u0 u1 u2 u3 r0 r1 r2 r3 v0 v1 v2 v3; obtain ⟨t0, t1, t2, t3, u0, u1, u2, u3, r0, r1, r2, r3, v0, v1, v2, v3⟩ := HD.out.facts))
                    have HDF := Lib.hid (HD.out.put 1 (.int .i64 m) ⟨d, m, T.en, T.lp⟩ rfl (fun x => rfl))
                    go_roundw
                    case rel => exact ⟨k + 1, 1, ⟨d, m, T.en, T.lp⟩, A, c, HKL.out, by go_num, rfl, by decide, HG.out.2, HG.out.1, HDF.out⟩
                    case measure => simp [intOf]; omega
              · rw [if_neg hxs] at h3
                obtain ⟨hxb, hxb2⟩ := lit_no (l := [115, 116, 97, 114, 116]) (B := startB) rfl hxs
                have H3 := Lib.hid h3
                clear h3 hxs
                as_aux_lemma =>
                  have HE := Lib.hid (HBad.out 3 (H3.out))
                  go_wp2_with (first
                    | (go_at_call 21; refine (HPW.out _).mono ?_; rintro e w2 ⟨A2, c2, rfl, hown, hb2⟩; obtain ⟨b2, cur2, rfl, hBb2, hcap2, hmax2, hh2, hc2⟩ := own_all hown HW1.out; have HBB := Lib.hid (show w.heap.size + 2 ≤ b2 from Nat.le_trans (by have := HD.out.base; have := HD.out.hb; have := HD.out.hB; omega) hBb2); have HD := Lib.hid (HD.out.next hb2); have HH := Lib.hid hh2; have HC2 := Lib.hid hc2; clear hown hb2 hh2 hc2 hBb2; obtain ⟨t0, t1, t2, t3, u0, u1, u2, u3, r0, r1, r2, r3, v0, v1, v2, v3⟩ := HD.out.facts; have y0 := (HH.out.cell 0).trans (HC2.out 0 x HX0.out); have y1 := (HH.out.cell 1).trans (HC2.out 1 y HX1.out); have y2 := (HH.out.cell 2).trans (HC2.out 2 z HX2.out))
                    | (go_at_call 32; refine (HDY.out _).mono ?_; rintro e w3 ⟨rfl, hb3⟩; have HD := Lib.hid (HD.out.next hb3); have HH := Lib.hid (HH.out.below hb3 HH.out.lt); clear hb3; clear t0 t1 t2 t3 u0 u1 u2 u3 r0 r1 r2 r3 v0 v1 v2 v3; clear y0 y1 y2; obtain ⟨t0, t1, t2, t3, u0, u1, u2, u3, r0, r1, r2, r3, v0, v1, v2, v3⟩ := HD.out.facts; have y0 := (HH.out.cell 0).trans (HC2.out 0 x HX0.out); have y1 := (HH.out.cell 1).trans (HC2.out 1 y HX1.out); have y2 := (HH.out.cell 2).trans (HC2.out 2 z HX2.out)))
                  refine bodyPost_ret (rres_out HD.out.wiped.1 rfl rfl rfl rfl _ rfl rfl rfl) rfl ?_
                  exact ⟨.inr ⟨k + 1, 3, HE.out, rfl⟩, HD.out.wiped.2⟩
            · have n3 : ((N : Int) != 3) = true := by simp; omega
              have n3' : ((N : Int) == 3) = false := beq_no (by omega)
              as_aux_lemma =>
                have HE := Lib.hid (HBad.out 3 (line_start_len (by rw [HNN.out]; exact hN3)))
                go_wp2_with (first
                  | (go_at_call 21; refine (HPW.out _).mono ?_; rintro e w2 ⟨A2, c2, rfl, hown, hb2⟩; obtain ⟨b2, cur2, rfl, hBb2, hcap2, hmax2, hh2, hc2⟩ := own_all hown HW1.out; have HBB := Lib.hid (show w.heap.size + 2 ≤ b2 from Nat.le_trans (by have := HD.out.base; have := HD.out.hb; have := HD.out.hB; omega) hBb2); have HD := Lib.hid (HD.out.next hb2); have HH := Lib.hid hh2; have HC2 := Lib.hid hc2; clear hown hb2 hh2 hc2 hBb2; obtain ⟨t0, t1, t2, t3, u0, u1, u2, u3, r0, r1, r2, r3, v0, v1, v2, v3⟩ := HD.out.facts; have y0 := (HH.out.cell 0).trans (HC2.out 0 x HX0.out); have y1 := (HH.out.cell 1).trans (HC2.out 1 y HX1.out))
                  | (go_at_call 32; refine (HDY.out _).mono ?_; rintro e w3 ⟨rfl, hb3⟩; have HD := Lib.hid (HD.out.next hb3); have HH := Lib.hid (HH.out.below hb3 HH.out.lt); clear hb3; clear t0 t1 t2 t3 u0 u1 u2 u3 r0 r1 r2 r3 v0 v1 v2 v3; clear y0 y1; obtain ⟨t0, t1, t2, t3, u0, u1, u2, u3, r0, r1, r2, r3, v0, v1, v2, v3⟩ := HD.out.facts; have y0 := (HH.out.cell 0).trans (HC2.out 0 x HX0.out); have y1 := (HH.out.cell 1).trans (HC2.out 1 y HX1.out)))
                refine bodyPost_ret (rres_out HD.out.wiped.1 rfl rfl rfl rfl _ rfl rfl rfl) rfl ?_
                exact ⟨.inr ⟨k + 1, 3, HE.out, rfl⟩, HD.out.wiped.2⟩
          · have hord := HI.out.days (by decide)
            have hfew := HI.out.few
            by_cases hxs : x = leapB
            · obtain ⟨hxb, hxb2⟩ := lit_yes (l := [108, 101, 97, 112]) (B := leapB) rfl hxs
              by_cases hN3 : N = 3
              · subst hN3
                obtain ⟨z, hx2⟩ : ∃ x, ws[2]? = some x := ⟨_, List.getElem?_eq_getElem (by have := HNN.out; omega)⟩
                have HX2 := Lib.hid hx2
                have h3 := line_leap3 (T := T) (y := y) (z := z) HDD.out
                have hw3 := three_of HNN.out HX0.out HX1.out hx2
                rw [hxs] at hw3
                rw [← hw3] at h3
                clear hx2 hw3 hxs
                by_cases hz1 : z = moreB
                · obtain ⟨z1, z2⟩ := lit_yes (l := [43, 49]) (B := moreB) rfl hz1
                  obtain ⟨z3, z4⟩ := lit_no (x := z) (l := [45, 49]) (B := lessB) rfl (fun h => by rw [hz1] at h; revert h; decide)
                  have hso : stepOf z = some 1 := by unfold stepOf; rw [if_pos hz1]
                  clear hz1
                  rw [hso] at h3
                  dsimp only at h3
                  clear hso
                  by_cases h64 : 64 ≤ T.lp.length
                  · have b64 : ((T.lp.length : Int) == 64) = true := by rw [show (T.lp.length : Int) = 64 by omega]; rfl
                    have b64n : (T.lp.length == 64) = true := by rw [show T.lp.length = 64 by omega]; rfl
                    rw [if_pos h64] at h3
                    have H3 := Lib.hid h3
                    clear h3 h64 hord hfew
                    as_aux_lemma =>
                      have HE := Lib.hid (HBad.out 6 (H3.out))
                      go_wp2_with (first
                        | (go_at_call 21; refine (HPW.out _).mono ?_; rintro e w2 ⟨A2, c2, rfl, hown, hb2⟩; obtain ⟨b2, cur2, rfl, hBb2, hcap2, hmax2, hh2, hc2⟩ := own_all hown HW1.out; have HBB := Lib.hid (show w.heap.size + 2 ≤ b2 from Nat.le_trans (by have := HD.out.base; have := HD.out.hb; have := HD.out.hB; omega) hBb2); have HD := Lib.hid (HD.out.next hb2); have HH := Lib.hid hh2; have HC2 := Lib.hid hc2; clear hown hb2 hh2 hc2 hBb2; obtain ⟨t0, t1, t2, t3, u0, u1, u2, u3, r0, r1, r2, r3, v0, v1, v2, v3⟩ := HD.out.facts; have y0 := (HH.out.cell 0).trans (HC2.out 0 x HX0.out); have y1 := (HH.out.cell 1).trans (HC2.out 1 y HX1.out); have y2 := (HH.out.cell 2).trans (HC2.out 2 z HX2.out))
                        | (go_at_call 32; refine (HDY.out _).mono ?_; rintro e w3 ⟨rfl, hb3⟩; have HD := Lib.hid (HD.out.next hb3); have HH := Lib.hid (HH.out.below hb3 HH.out.lt); clear hb3; clear t0 t1 t2 t3 u0 u1 u2 u3 r0 r1 r2 r3 v0 v1 v2 v3; clear y0 y1 y2; obtain ⟨t0, t1, t2, t3, u0, u1, u2, u3, r0, r1, r2, r3, v0, v1, v2, v3⟩ := HD.out.facts; have y0 := (HH.out.cell 0).trans (HC2.out 0 x HX0.out); have y1 := (HH.out.cell 1).trans (HC2.out 1 y HX1.out); have y2 := (HH.out.cell 2).trans (HC2.out 2 z HX2.out)))
                      refine bodyPost_ret (rres_out HD.out.wiped.1 rfl rfl rfl rfl _ rfl rfl rfl) rfl ?_
                      exact ⟨.inr ⟨k + 1, 6, HE.out, rfl⟩, HD.out.wiped.2⟩
                  have b64 : ((T.lp.length : Int) == 64) = false := beq_no (by omega)
                  have b64n : (T.lp.length == 64) = false := by rw [beq_eq_false_iff_ne]; omega
                  rw [if_neg h64] at h3
                  clear h64
                  by_cases hds : d < T.st
                  · have dd : decide (d < T.st) = true := decide_eq_true hds
                    have htk : takesB T.st T.lp d = false := by cases h : takesB T.st T.lp d with | false => rfl | true => (have := ((takes_iff hord d).1 h).1; omega)
                    rw [htk] at h3
                    have H3 := Lib.hid h3
                    clear h3 htk hord hfew hds
                    as_aux_lemma =>
                      have HE := Lib.hid (HBad.out 12 (H3.out))
                      go_wp2_with (first
                        | (go_at_call 21; refine (HPW.out _).mono ?_; rintro e w2 ⟨A2, c2, rfl, hown, hb2⟩; obtain ⟨b2, cur2, rfl, hBb2, hcap2, hmax2, hh2, hc2⟩ := own_all hown HW1.out; have HBB := Lib.hid (show w.heap.size + 2 ≤ b2 from Nat.le_trans (by have := HD.out.base; have := HD.out.hb; have := HD.out.hB; omega) hBb2); have HD := Lib.hid (HD.out.next hb2); have HH := Lib.hid hh2; have HC2 := Lib.hid hc2; clear hown hb2 hh2 hc2 hBb2; obtain ⟨t0, t1, t2, t3, u0, u1, u2, u3, r0, r1, r2, r3, v0, v1, v2, v3⟩ := HD.out.facts; have y0 := (HH.out.cell 0).trans (HC2.out 0 x HX0.out); have y1 := (HH.out.cell 1).trans (HC2.out 1 y HX1.out); have y2 := (HH.out.cell 2).trans (HC2.out 2 z HX2.out))
                        | (go_at_call 32; refine (HDY.out _).mono ?_; rintro e w3 ⟨rfl, hb3⟩; have HD := Lib.hid (HD.out.next hb3); have HH := Lib.hid (HH.out.below hb3 HH.out.lt); clear hb3; clear t0 t1 t2 t3 u0 u1 u2 u3 r0 r1 r2 r3 v0 v1 v2 v3; clear y0 y1 y2; obtain ⟨t0, t1, t2, t3, u0, u1, u2, u3, r0, r1, r2, r3, v0, v1, v2, v3⟩ := HD.out.facts; have y0 := (HH.out.cell 0).trans (HC2.out 0 x HX0.out); have y1 := (HH.out.cell 1).trans (HC2.out 1 y HX1.out); have y2 := (HH.out.cell 2).trans (HC2.out 2 z HX2.out)))
                      refine bodyPost_ret (rres_out HD.out.wiped.1 rfl rfl rfl rfl _ rfl rfl rfl) rfl ?_
                      exact ⟨.inr ⟨k + 1, 12, HE.out, rfl⟩, HD.out.wiped.2⟩
                  have dd : decide (d < T.st) = false := decide_eq_false hds
                  by_cases hl0 : T.lp.length = 0
                  · have e0 : decide (0 < T.lp.length) = false := decide_eq_false (by omega)
                    have e0' : decide ((0 : Int) < (T.lp.length : Int)) = false := decide_eq_false (by omega)
                    have htk : takesB T.st T.lp d = true := by rw [List.eq_nil_of_length_eq_zero hl0, takes_nil]; exact decide_eq_true (by omega)
                    rw [htk] at h3
                    have HG := Lib.hid (HGood.out _ _ h3)
                    have HKN := Lib.hid (show T.lp.length ≤ 100000 by omega)
                    clear h3 htk hord hfew hds hl0
                    as_aux_lemma =>
                      go_wp2_with (first
                        | (go_at_call 21; refine (HPW.out _).mono ?_; rintro e w2 ⟨A2, c2, rfl, hown, hb2⟩; obtain ⟨b2, cur2, rfl, hBb2, hcap2, hmax2, hh2, hc2⟩ := own_all hown HW1.out; have HBB := Lib.hid (show w.heap.size + 2 ≤ b2 from Nat.le_trans (by have := HD.out.base; have := HD.out.hb; have := HD.out.hB; omega) hBb2); have HD := Lib.hid (HD.out.next hb2); have HH := Lib.hid hh2; have HC2 := Lib.hid hc2; clear hown hb2 hh2 hc2 hBb2; obtain ⟨t0, t1, t2, t3, u0, u1, u2, u3, r0, r1, r2, r3, v0, v1, v2, v3⟩ := HD.out.facts; have y0 := (HH.out.cell 0).trans (HC2.out 0 x HX0.out); have y1 := (HH.out.cell 1).trans (HC2.out 1 y HX1.out); have y2 := (HH.out.cell 2).trans (HC2.out 2 z HX2.out))
                        | (go_at_call 32; refine (HDY.out _).mono ?_; rintro e w3 ⟨rfl, hb3⟩; have HD := Lib.hid (HD.out.next hb3); have HH := Lib.hid (HH.out.below hb3 HH.out.lt); clear hb3; clear t0 t1 t2 t3 u0 u1 u2 u3 r0 r1 r2 r3 v0 v1 v2 v3; clear y0 y1 y2; obtain ⟨t0, t1, t2, t3, u0, u1, u2, u3, r0, r1, r2, r3, v0, v1, v2, v3⟩ := HD.out.facts; have y0 := (HH.out.cell 0).trans (HC2.out 0 x HX0.out); have y1 := (HH.out.cell 1).trans (HC2.out 1 y HX1.out); have y2 := (HH.out.cell 2).trans (HC2.out 2 z HX2.out))
                        | (at_builtin; have HZ := Lib.hid (Box.start w3 50 #[.int .i64 d, .int .i64 (1)]); refine wpList_pushK rfl (.tmp 142) (.tmp 146) _ rfl BL 50 _ 2 16 Tryd.underlying22 rlp_info rfl (by decide) _ T.lp.length c (prs T.lp) rfl (HD.out.next HZ.out.below).own w3.heap.size 50 [.int .i64 d, .int .i64 (1)] rfl HZ.out.holds rfl (by intro u hu; simp at hu; rcases hu with rfl | rfl <;> rfl) HKN.out (by decide) (HD.out.next HZ.out.below).base ?_; intro A8 c8 w8 ho8 hb8; have HD8 := Lib.hid ((HD.out.next HZ.out.below).push hb8 A8 c8 d (1) ho8); have g3 := ((HD.out.next HZ.out.below).tab.below hb8 (by have := HD.out.hb; have := HD.out.hB; omega)).soft 3; have g3c := ((HD.out.next HZ.out.below).tab.below hb8 (by have := HD.out.hb; have := HD.out.hB; omega)).cell 3; clear ho8 hb8))
                      go_roundw
                      case rel => exact ⟨k + 1, 1, ⟨T.st, T.ah, T.en, T.lp ++ [(d, 1)]⟩, A8, c8, HKL.out, by go_num, rfl, by decide, HG.out.2, HG.out.1, HD8.out⟩
                      case measure => simp [intOf]; omega
                  obtain ⟨i, hi⟩ : ∃ i, T.lp.length = i + 1 := ⟨T.lp.length - 1, by omega⟩
                  have e0 : decide (0 < T.lp.length) = true := decide_eq_true (by omega)
                  have e0' : (0 : Int) < (T.lp.length : Int) := by omega
                  have ewi : IntKind.i64.wrap ((T.lp.length : Int) - 1) = (i : Int) := by rw [IntWalk.i64_in _ (by omega)]; omega
                  have hil : (i : Int) < (T.lp.length : Int) := by omega
                  obtain ⟨e', he'⟩ : ∃ x, T.lp[i]? = some x := ⟨_, List.getElem?_eq_getElem (by omega)⟩
                  have hsp : T.lp = T.lp.take i ++ [e'] := by
                    obtain ⟨hk', e''⟩ := List.getElem?_eq_some_iff.1 he'
                    rw [← e'', ← List.take_succ_eq_append_getElem hk', List.take_of_length_le (by omega)]
                  obtain ⟨x', y'⟩ := e'
                  have htk : takesB T.st T.lp d = decide (x' < d) := by rw [hsp, takes_snoc]
                  obtain ⟨ba, oa, hA, _, _, _⟩ := (PRow.of_own HD.out.own).at he'
                  have hcc : T.lp.length ≤ c := (PRow.of_own HD.out.own).cap_le
                  have hcm2 := (PRow.of_own HD.out.own).max
                  unfold maxLen at hcm2
                  subst hA
                  have HEL := Lib.hid he'
                  by_cases hdx : d ≤ x'
                  · have de : decide (d ≤ x') = true := decide_eq_true hdx
                    rw [decide_eq_false (by omega)] at htk
                    rw [htk] at h3
                    have H3 := Lib.hid h3
                    clear h3 htk hord hfew hds hl0 hi he' hsp hdx
                    as_aux_lemma =>
                      have HE := Lib.hid (HBad.out 12 (H3.out))
                      go_wp2_with (first
                        | (go_at_call 21; refine (HPW.out _).mono ?_; rintro e w2 ⟨A2, c2, rfl, hown, hb2⟩; obtain ⟨b2, cur2, rfl, hBb2, hcap2, hmax2, hh2, hc2⟩ := own_all hown HW1.out; have HBB := Lib.hid (show w.heap.size + 2 ≤ b2 from Nat.le_trans (by have := HD.out.base; have := HD.out.hb; have := HD.out.hB; omega) hBb2); have HD := Lib.hid (HD.out.next hb2); have HH := Lib.hid hh2; have HC2 := Lib.hid hc2; clear hown hb2 hh2 hc2 hBb2; obtain ⟨t0, t1, t2, t3, u0, u1, u2, u3, r0, r1, r2, r3, v0, v1, v2, v3⟩ := HD.out.facts; have y0 := (HH.out.cell 0).trans (HC2.out 0 x HX0.out); have y1 := (HH.out.cell 1).trans (HC2.out 1 y HX1.out); have y2 := (HH.out.cell 2).trans (HC2.out 2 z HX2.out))
                        | (go_at_call 32; refine (HDY.out _).mono ?_; rintro e w3 ⟨rfl, hb3⟩; have HD := Lib.hid (HD.out.next hb3); have HH := Lib.hid (HH.out.below hb3 HH.out.lt); clear hb3; clear t0 t1 t2 t3 u0 u1 u2 u3 r0 r1 r2 r3 v0 v1 v2 v3; clear y0 y1 y2; obtain ⟨t0, t1, t2, t3, u0, u1, u2, u3, r0, r1, r2, r3, v0, v1, v2, v3⟩ := HD.out.facts; have y0 := (HH.out.cell 0).trans (HC2.out 0 x HX0.out); have y1 := (HH.out.cell 1).trans (HC2.out 1 y HX1.out); have y2 := (HH.out.cell 2).trans (HC2.out 2 z HX2.out); have p0 := last_cell HD.out rfl HEL.out))
                      refine bodyPost_ret (rres_out HD.out.wiped.1 rfl rfl rfl rfl _ rfl rfl rfl) rfl ?_
                      exact ⟨.inr ⟨k + 1, 12, HE.out, rfl⟩, HD.out.wiped.2⟩
                  · have de : decide (d ≤ x') = false := decide_eq_false hdx
                    rw [decide_eq_true (by omega)] at htk
                    rw [htk] at h3
                    have HG := Lib.hid (HGood.out _ _ h3)
                    have HKN := Lib.hid (show T.lp.length ≤ 100000 by omega)
                    clear h3 htk hord hfew hds hi he' hsp hdx hl0
                    as_aux_lemma =>
                      go_wp2_with (first
                        | (go_at_call 21; refine (HPW.out _).mono ?_; rintro e w2 ⟨A2, c2, rfl, hown, hb2⟩; obtain ⟨b2, cur2, rfl, hBb2, hcap2, hmax2, hh2, hc2⟩ := own_all hown HW1.out; have HBB := Lib.hid (show w.heap.size + 2 ≤ b2 from Nat.le_trans (by have := HD.out.base; have := HD.out.hb; have := HD.out.hB; omega) hBb2); have HD := Lib.hid (HD.out.next hb2); have HH := Lib.hid hh2; have HC2 := Lib.hid hc2; clear hown hb2 hh2 hc2 hBb2; obtain ⟨t0, t1, t2, t3, u0, u1, u2, u3, r0, r1, r2, r3, v0, v1, v2, v3⟩ := HD.out.facts; have y0 := (HH.out.cell 0).trans (HC2.out 0 x HX0.out); have y1 := (HH.out.cell 1).trans (HC2.out 1 y HX1.out); have y2 := (HH.out.cell 2).trans (HC2.out 2 z HX2.out))
                        | (go_at_call 32; refine (HDY.out _).mono ?_; rintro e w3 ⟨rfl, hb3⟩; have HD := Lib.hid (HD.out.next hb3); have HH := Lib.hid (HH.out.below hb3 HH.out.lt); clear hb3; clear t0 t1 t2 t3 u0 u1 u2 u3 r0 r1 r2 r3 v0 v1 v2 v3; clear y0 y1 y2; obtain ⟨t0, t1, t2, t3, u0, u1, u2, u3, r0, r1, r2, r3, v0, v1, v2, v3⟩ := HD.out.facts; have y0 := (HH.out.cell 0).trans (HC2.out 0 x HX0.out); have y1 := (HH.out.cell 1).trans (HC2.out 1 y HX1.out); have y2 := (HH.out.cell 2).trans (HC2.out 2 z HX2.out); have p0 := last_cell HD.out rfl HEL.out)
                        | (at_builtin; have HZ := Lib.hid (Box.start w3 50 #[.int .i64 d, .int .i64 (1)]); refine wpList_pushK rfl (.tmp 142) (.tmp 146) _ rfl BL 50 _ 2 16 Tryd.underlying22 rlp_info rfl (by decide) _ T.lp.length c (prs T.lp) rfl (HD.out.next HZ.out.below).own w3.heap.size 50 [.int .i64 d, .int .i64 (1)] rfl HZ.out.holds rfl (by intro u hu; simp at hu; rcases hu with rfl | rfl <;> rfl) HKN.out (by decide) (HD.out.next HZ.out.below).base ?_; intro A8 c8 w8 ho8 hb8; have HD8 := Lib.hid ((HD.out.next HZ.out.below).push hb8 A8 c8 d (1) ho8); have g3 := ((HD.out.next HZ.out.below).tab.below hb8 (by have := HD.out.hb; have := HD.out.hB; omega)).soft 3; have g3c := ((HD.out.next HZ.out.below).tab.below hb8 (by have := HD.out.hb; have := HD.out.hB; omega)).cell 3; clear ho8 hb8))
                      go_roundw
                      case rel => exact ⟨k + 1, 1, ⟨T.st, T.ah, T.en, T.lp ++ [(d, 1)]⟩, A8, c8, HKL.out, by go_num, rfl, by decide, HG.out.2, HG.out.1, HD8.out⟩
                      case measure => simp [intOf]; omega
                · obtain ⟨z1, z2⟩ := lit_no (l := [43, 49]) (B := moreB) rfl hz1
                  by_cases hz2 : z = lessB
                  · obtain ⟨z3, z4⟩ := lit_yes (l := [45, 49]) (B := lessB) rfl hz2
                    have hso : stepOf z = some (-1) := by unfold stepOf; rw [if_neg hz1, if_pos hz2]
                    clear hz1 hz2
                    rw [hso] at h3
                    dsimp only at h3
                    clear hso
                    by_cases h64 : 64 ≤ T.lp.length
                    · have b64 : ((T.lp.length : Int) == 64) = true := by rw [show (T.lp.length : Int) = 64 by omega]; rfl
                      have b64n : (T.lp.length == 64) = true := by rw [show T.lp.length = 64 by omega]; rfl
                      rw [if_pos h64] at h3
                      have H3 := Lib.hid h3
                      clear h3 h64 hord hfew
                      as_aux_lemma =>
                        have HE := Lib.hid (HBad.out 6 (H3.out))
                        go_wp2_with (first
                          | (go_at_call 21; refine (HPW.out _).mono ?_; rintro e w2 ⟨A2, c2, rfl, hown, hb2⟩; obtain ⟨b2, cur2, rfl, hBb2, hcap2, hmax2, hh2, hc2⟩ := own_all hown HW1.out; have HBB := Lib.hid (show w.heap.size + 2 ≤ b2 from Nat.le_trans (by have := HD.out.base; have := HD.out.hb; have := HD.out.hB; omega) hBb2); have HD := Lib.hid (HD.out.next hb2); have HH := Lib.hid hh2; have HC2 := Lib.hid hc2; clear hown hb2 hh2 hc2 hBb2; obtain ⟨t0, t1, t2, t3, u0, u1, u2, u3, r0, r1, r2, r3, v0, v1, v2, v3⟩ := HD.out.facts; have y0 := (HH.out.cell 0).trans (HC2.out 0 x HX0.out); have y1 := (HH.out.cell 1).trans (HC2.out 1 y HX1.out); have y2 := (HH.out.cell 2).trans (HC2.out 2 z HX2.out))
                          | (go_at_call 32; refine (HDY.out _).mono ?_; rintro e w3 ⟨rfl, hb3⟩; have HD := Lib.hid (HD.out.next hb3); have HH := Lib.hid (HH.out.below hb3 HH.out.lt); clear hb3; clear t0 t1 t2 t3 u0 u1 u2 u3 r0 r1 r2 r3 v0 v1 v2 v3; clear y0 y1 y2; obtain ⟨t0, t1, t2, t3, u0, u1, u2, u3, r0, r1, r2, r3, v0, v1, v2, v3⟩ := HD.out.facts; have y0 := (HH.out.cell 0).trans (HC2.out 0 x HX0.out); have y1 := (HH.out.cell 1).trans (HC2.out 1 y HX1.out); have y2 := (HH.out.cell 2).trans (HC2.out 2 z HX2.out)))
                        refine bodyPost_ret (rres_out HD.out.wiped.1 rfl rfl rfl rfl _ rfl rfl rfl) rfl ?_
                        exact ⟨.inr ⟨k + 1, 6, HE.out, rfl⟩, HD.out.wiped.2⟩
                    have b64 : ((T.lp.length : Int) == 64) = false := beq_no (by omega)
                    have b64n : (T.lp.length == 64) = false := by rw [beq_eq_false_iff_ne]; omega
                    rw [if_neg h64] at h3
                    clear h64
                    by_cases hds : d < T.st
                    · have dd : decide (d < T.st) = true := decide_eq_true hds
                      have htk : takesB T.st T.lp d = false := by cases h : takesB T.st T.lp d with | false => rfl | true => (have := ((takes_iff hord d).1 h).1; omega)
                      rw [htk] at h3
                      have H3 := Lib.hid h3
                      clear h3 htk hord hfew hds
                      as_aux_lemma =>
                        have HE := Lib.hid (HBad.out 12 (H3.out))
                        go_wp2_with (first
                          | (go_at_call 21; refine (HPW.out _).mono ?_; rintro e w2 ⟨A2, c2, rfl, hown, hb2⟩; obtain ⟨b2, cur2, rfl, hBb2, hcap2, hmax2, hh2, hc2⟩ := own_all hown HW1.out; have HBB := Lib.hid (show w.heap.size + 2 ≤ b2 from Nat.le_trans (by have := HD.out.base; have := HD.out.hb; have := HD.out.hB; omega) hBb2); have HD := Lib.hid (HD.out.next hb2); have HH := Lib.hid hh2; have HC2 := Lib.hid hc2; clear hown hb2 hh2 hc2 hBb2; obtain ⟨t0, t1, t2, t3, u0, u1, u2, u3, r0, r1, r2, r3, v0, v1, v2, v3⟩ := HD.out.facts; have y0 := (HH.out.cell 0).trans (HC2.out 0 x HX0.out); have y1 := (HH.out.cell 1).trans (HC2.out 1 y HX1.out); have y2 := (HH.out.cell 2).trans (HC2.out 2 z HX2.out))
                          | (go_at_call 32; refine (HDY.out _).mono ?_; rintro e w3 ⟨rfl, hb3⟩; have HD := Lib.hid (HD.out.next hb3); have HH := Lib.hid (HH.out.below hb3 HH.out.lt); clear hb3; clear t0 t1 t2 t3 u0 u1 u2 u3 r0 r1 r2 r3 v0 v1 v2 v3; clear y0 y1 y2; obtain ⟨t0, t1, t2, t3, u0, u1, u2, u3, r0, r1, r2, r3, v0, v1, v2, v3⟩ := HD.out.facts; have y0 := (HH.out.cell 0).trans (HC2.out 0 x HX0.out); have y1 := (HH.out.cell 1).trans (HC2.out 1 y HX1.out); have y2 := (HH.out.cell 2).trans (HC2.out 2 z HX2.out)))
                        refine bodyPost_ret (rres_out HD.out.wiped.1 rfl rfl rfl rfl _ rfl rfl rfl) rfl ?_
                        exact ⟨.inr ⟨k + 1, 12, HE.out, rfl⟩, HD.out.wiped.2⟩
                    have dd : decide (d < T.st) = false := decide_eq_false hds
                    by_cases hl0 : T.lp.length = 0
                    · have e0 : decide (0 < T.lp.length) = false := decide_eq_false (by omega)
                      have e0' : decide ((0 : Int) < (T.lp.length : Int)) = false := decide_eq_false (by omega)
                      have htk : takesB T.st T.lp d = true := by rw [List.eq_nil_of_length_eq_zero hl0, takes_nil]; exact decide_eq_true (by omega)
                      rw [htk] at h3
                      have HG := Lib.hid (HGood.out _ _ h3)
                      have HKN := Lib.hid (show T.lp.length ≤ 100000 by omega)
                      clear h3 htk hord hfew hds hl0
                      as_aux_lemma =>
                        go_wp2_with (first
                          | (go_at_call 21; refine (HPW.out _).mono ?_; rintro e w2 ⟨A2, c2, rfl, hown, hb2⟩; obtain ⟨b2, cur2, rfl, hBb2, hcap2, hmax2, hh2, hc2⟩ := own_all hown HW1.out; have HBB := Lib.hid (show w.heap.size + 2 ≤ b2 from Nat.le_trans (by have := HD.out.base; have := HD.out.hb; have := HD.out.hB; omega) hBb2); have HD := Lib.hid (HD.out.next hb2); have HH := Lib.hid hh2; have HC2 := Lib.hid hc2; clear hown hb2 hh2 hc2 hBb2; obtain ⟨t0, t1, t2, t3, u0, u1, u2, u3, r0, r1, r2, r3, v0, v1, v2, v3⟩ := HD.out.facts; have y0 := (HH.out.cell 0).trans (HC2.out 0 x HX0.out); have y1 := (HH.out.cell 1).trans (HC2.out 1 y HX1.out); have y2 := (HH.out.cell 2).trans (HC2.out 2 z HX2.out))
                          | (go_at_call 32; refine (HDY.out _).mono ?_; rintro e w3 ⟨rfl, hb3⟩; have HD := Lib.hid (HD.out.next hb3); have HH := Lib.hid (HH.out.below hb3 HH.out.lt); clear hb3; clear t0 t1 t2 t3 u0 u1 u2 u3 r0 r1 r2 r3 v0 v1 v2 v3; clear y0 y1 y2; obtain ⟨t0, t1, t2, t3, u0, u1, u2, u3, r0, r1, r2, r3, v0, v1, v2, v3⟩ := HD.out.facts; have y0 := (HH.out.cell 0).trans (HC2.out 0 x HX0.out); have y1 := (HH.out.cell 1).trans (HC2.out 1 y HX1.out); have y2 := (HH.out.cell 2).trans (HC2.out 2 z HX2.out))
                          | (at_builtin; have HZ := Lib.hid (Box.start w3 50 #[.int .i64 d, .int .i64 (-1)]); refine wpList_pushK rfl (.tmp 142) (.tmp 146) _ rfl BL 50 _ 2 16 Tryd.underlying22 rlp_info rfl (by decide) _ T.lp.length c (prs T.lp) rfl (HD.out.next HZ.out.below).own w3.heap.size 50 [.int .i64 d, .int .i64 (-1)] rfl HZ.out.holds rfl (by intro u hu; simp at hu; rcases hu with rfl | rfl <;> rfl) HKN.out (by decide) (HD.out.next HZ.out.below).base ?_; intro A8 c8 w8 ho8 hb8; have HD8 := Lib.hid ((HD.out.next HZ.out.below).push hb8 A8 c8 d (-1) ho8); have g3 := ((HD.out.next HZ.out.below).tab.below hb8 (by have := HD.out.hb; have := HD.out.hB; omega)).soft 3; have g3c := ((HD.out.next HZ.out.below).tab.below hb8 (by have := HD.out.hb; have := HD.out.hB; omega)).cell 3; clear ho8 hb8))
                        go_roundw
                        case rel => exact ⟨k + 1, 1, ⟨T.st, T.ah, T.en, T.lp ++ [(d, -1)]⟩, A8, c8, HKL.out, by go_num, rfl, by decide, HG.out.2, HG.out.1, HD8.out⟩
                        case measure => simp [intOf]; omega
                    obtain ⟨i, hi⟩ : ∃ i, T.lp.length = i + 1 := ⟨T.lp.length - 1, by omega⟩
                    have e0 : decide (0 < T.lp.length) = true := decide_eq_true (by omega)
                    have e0' : (0 : Int) < (T.lp.length : Int) := by omega
                    have ewi : IntKind.i64.wrap ((T.lp.length : Int) - 1) = (i : Int) := by rw [IntWalk.i64_in _ (by omega)]; omega
                    have hil : (i : Int) < (T.lp.length : Int) := by omega
                    obtain ⟨e', he'⟩ : ∃ x, T.lp[i]? = some x := ⟨_, List.getElem?_eq_getElem (by omega)⟩
                    have hsp : T.lp = T.lp.take i ++ [e'] := by
                      obtain ⟨hk', e''⟩ := List.getElem?_eq_some_iff.1 he'
                      rw [← e'', ← List.take_succ_eq_append_getElem hk', List.take_of_length_le (by omega)]
                    obtain ⟨x', y'⟩ := e'
                    have htk : takesB T.st T.lp d = decide (x' < d) := by rw [hsp, takes_snoc]
                    obtain ⟨ba, oa, hA, _, _, _⟩ := (PRow.of_own HD.out.own).at he'
                    have hcc : T.lp.length ≤ c := (PRow.of_own HD.out.own).cap_le
                    have hcm2 := (PRow.of_own HD.out.own).max
                    unfold maxLen at hcm2
                    subst hA
                    have HEL := Lib.hid he'
                    by_cases hdx : d ≤ x'
                    · have de : decide (d ≤ x') = true := decide_eq_true hdx
                      rw [decide_eq_false (by omega)] at htk
                      rw [htk] at h3
                      have H3 := Lib.hid h3
                      clear h3 htk hord hfew hds hl0 hi he' hsp hdx
                      as_aux_lemma =>
                        have HE := Lib.hid (HBad.out 12 (H3.out))
                        go_wp2_with (first
                          | (go_at_call 21; refine (HPW.out _).mono ?_; rintro e w2 ⟨A2, c2, rfl, hown, hb2⟩; obtain ⟨b2, cur2, rfl, hBb2, hcap2, hmax2, hh2, hc2⟩ := own_all hown HW1.out; have HBB := Lib.hid (show w.heap.size + 2 ≤ b2 from Nat.le_trans (by have := HD.out.base; have := HD.out.hb; have := HD.out.hB; omega) hBb2); have HD := Lib.hid (HD.out.next hb2); have HH := Lib.hid hh2; have HC2 := Lib.hid hc2; clear hown hb2 hh2 hc2 hBb2; obtain ⟨t0, t1, t2, t3, u0, u1, u2, u3, r0, r1, r2, r3, v0, v1, v2, v3⟩ := HD.out.facts; have y0 := (HH.out.cell 0).trans (HC2.out 0 x HX0.out); have y1 := (HH.out.cell 1).trans (HC2.out 1 y HX1.out); have y2 := (HH.out.cell 2).trans (HC2.out 2 z HX2.out))
                          | (go_at_call 32; refine (HDY.out _).mono ?_; rintro e w3 ⟨rfl, hb3⟩; have HD := Lib.hid (HD.out.next hb3); have HH := Lib.hid (HH.out.below hb3 HH.out.lt); clear hb3; clear t0 t1 t2 t3 u0 u1 u2 u3 r0 r1 r2 r3 v0 v1 v2 v3; clear y0 y1 y2; obtain ⟨t0, t1, t2, t3, u0, u1, u2, u3, r0, r1, r2, r3, v0, v1, v2, v3⟩ := HD.out.facts; have y0 := (HH.out.cell 0).trans (HC2.out 0 x HX0.out); have y1 := (HH.out.cell 1).trans (HC2.out 1 y HX1.out); have y2 := (HH.out.cell 2).trans (HC2.out 2 z HX2.out); have p0 := last_cell HD.out rfl HEL.out))
                        refine bodyPost_ret (rres_out HD.out.wiped.1 rfl rfl rfl rfl _ rfl rfl rfl) rfl ?_
                        exact ⟨.inr ⟨k + 1, 12, HE.out, rfl⟩, HD.out.wiped.2⟩
                    · have de : decide (d ≤ x') = false := decide_eq_false hdx
                      rw [decide_eq_true (by omega)] at htk
                      rw [htk] at h3
                      have HG := Lib.hid (HGood.out _ _ h3)
                      have HKN := Lib.hid (show T.lp.length ≤ 100000 by omega)
                      clear h3 htk hord hfew hds hi he' hsp hdx hl0
                      as_aux_lemma =>
                        go_wp2_with (first
                          | (go_at_call 21; refine (HPW.out _).mono ?_; rintro e w2 ⟨A2, c2, rfl, hown, hb2⟩; obtain ⟨b2, cur2, rfl, hBb2, hcap2, hmax2, hh2, hc2⟩ := own_all hown HW1.out; have HBB := Lib.hid (show w.heap.size + 2 ≤ b2 from Nat.le_trans (by have := HD.out.base; have := HD.out.hb; have := HD.out.hB; omega) hBb2); have HD := Lib.hid (HD.out.next hb2); have HH := Lib.hid hh2; have HC2 := Lib.hid hc2; clear hown hb2 hh2 hc2 hBb2; obtain ⟨t0, t1, t2, t3, u0, u1, u2, u3, r0, r1, r2, r3, v0, v1, v2, v3⟩ := HD.out.facts; have y0 := (HH.out.cell 0).trans (HC2.out 0 x HX0.out); have y1 := (HH.out.cell 1).trans (HC2.out 1 y HX1.out); have y2 := (HH.out.cell 2).trans (HC2.out 2 z HX2.out))
                          | (go_at_call 32; refine (HDY.out _).mono ?_; rintro e w3 ⟨rfl, hb3⟩; have HD := Lib.hid (HD.out.next hb3); have HH := Lib.hid (HH.out.below hb3 HH.out.lt); clear hb3; clear t0 t1 t2 t3 u0 u1 u2 u3 r0 r1 r2 r3 v0 v1 v2 v3; clear y0 y1 y2; obtain ⟨t0, t1, t2, t3, u0, u1, u2, u3, r0, r1, r2, r3, v0, v1, v2, v3⟩ := HD.out.facts; have y0 := (HH.out.cell 0).trans (HC2.out 0 x HX0.out); have y1 := (HH.out.cell 1).trans (HC2.out 1 y HX1.out); have y2 := (HH.out.cell 2).trans (HC2.out 2 z HX2.out); have p0 := last_cell HD.out rfl HEL.out)
                          | (at_builtin; have HZ := Lib.hid (Box.start w3 50 #[.int .i64 d, .int .i64 (-1)]); refine wpList_pushK rfl (.tmp 142) (.tmp 146) _ rfl BL 50 _ 2 16 Tryd.underlying22 rlp_info rfl (by decide) _ T.lp.length c (prs T.lp) rfl (HD.out.next HZ.out.below).own w3.heap.size 50 [.int .i64 d, .int .i64 (-1)] rfl HZ.out.holds rfl (by intro u hu; simp at hu; rcases hu with rfl | rfl <;> rfl) HKN.out (by decide) (HD.out.next HZ.out.below).base ?_; intro A8 c8 w8 ho8 hb8; have HD8 := Lib.hid ((HD.out.next HZ.out.below).push hb8 A8 c8 d (-1) ho8); have g3 := ((HD.out.next HZ.out.below).tab.below hb8 (by have := HD.out.hb; have := HD.out.hB; omega)).soft 3; have g3c := ((HD.out.next HZ.out.below).tab.below hb8 (by have := HD.out.hb; have := HD.out.hB; omega)).cell 3; clear ho8 hb8))
                        go_roundw
                        case rel => exact ⟨k + 1, 1, ⟨T.st, T.ah, T.en, T.lp ++ [(d, -1)]⟩, A8, c8, HKL.out, by go_num, rfl, by decide, HG.out.2, HG.out.1, HD8.out⟩
                        case measure => simp [intOf]; omega
                  · obtain ⟨z3, z4⟩ := lit_no (l := [45, 49]) (B := lessB) rfl hz2
                    have hso : stepOf z = none := by unfold stepOf; rw [if_neg hz1, if_neg hz2]
                    rw [hso] at h3
                    have H3 := Lib.hid h3
                    clear h3 hz1 hz2 hso hord hfew
                    as_aux_lemma =>
                      have HE := Lib.hid (HBad.out 3 (H3.out))
                      go_wp2_with (first
                        | (go_at_call 21; refine (HPW.out _).mono ?_; rintro e w2 ⟨A2, c2, rfl, hown, hb2⟩; obtain ⟨b2, cur2, rfl, hBb2, hcap2, hmax2, hh2, hc2⟩ := own_all hown HW1.out; have HBB := Lib.hid (show w.heap.size + 2 ≤ b2 from Nat.le_trans (by have := HD.out.base; have := HD.out.hb; have := HD.out.hB; omega) hBb2); have HD := Lib.hid (HD.out.next hb2); have HH := Lib.hid hh2; have HC2 := Lib.hid hc2; clear hown hb2 hh2 hc2 hBb2; obtain ⟨t0, t1, t2, t3, u0, u1, u2, u3, r0, r1, r2, r3, v0, v1, v2, v3⟩ := HD.out.facts; have y0 := (HH.out.cell 0).trans (HC2.out 0 x HX0.out); have y1 := (HH.out.cell 1).trans (HC2.out 1 y HX1.out); have y2 := (HH.out.cell 2).trans (HC2.out 2 z HX2.out))
                        | (go_at_call 32; refine (HDY.out _).mono ?_; rintro e w3 ⟨rfl, hb3⟩; have HD := Lib.hid (HD.out.next hb3); have HH := Lib.hid (HH.out.below hb3 HH.out.lt); clear hb3; clear t0 t1 t2 t3 u0 u1 u2 u3 r0 r1 r2 r3 v0 v1 v2 v3; clear y0 y1 y2; obtain ⟨t0, t1, t2, t3, u0, u1, u2, u3, r0, r1, r2, r3, v0, v1, v2, v3⟩ := HD.out.facts; have y0 := (HH.out.cell 0).trans (HC2.out 0 x HX0.out); have y1 := (HH.out.cell 1).trans (HC2.out 1 y HX1.out); have y2 := (HH.out.cell 2).trans (HC2.out 2 z HX2.out)))
                      refine bodyPost_ret (rres_out HD.out.wiped.1 rfl rfl rfl rfl _ rfl rfl rfl) rfl ?_
                      exact ⟨.inr ⟨k + 1, 3, HE.out, rfl⟩, HD.out.wiped.2⟩
              · have n3 : ((N : Int) != 3) = true := by simp; omega
                have n3' : ((N : Int) == 3) = false := beq_no (by omega)
                have H3 := Lib.hid (line_leap_len (T := T) HX0.out hxs (by rw [HNN.out]; exact hN3))
                clear hxs hord hfew
                as_aux_lemma =>
                  have HE := Lib.hid (HBad.out 3 (H3.out))
                  go_wp2_with (first
                    | (go_at_call 21; refine (HPW.out _).mono ?_; rintro e w2 ⟨A2, c2, rfl, hown, hb2⟩; obtain ⟨b2, cur2, rfl, hBb2, hcap2, hmax2, hh2, hc2⟩ := own_all hown HW1.out; have HBB := Lib.hid (show w.heap.size + 2 ≤ b2 from Nat.le_trans (by have := HD.out.base; have := HD.out.hb; have := HD.out.hB; omega) hBb2); have HD := Lib.hid (HD.out.next hb2); have HH := Lib.hid hh2; have HC2 := Lib.hid hc2; clear hown hb2 hh2 hc2 hBb2; obtain ⟨t0, t1, t2, t3, u0, u1, u2, u3, r0, r1, r2, r3, v0, v1, v2, v3⟩ := HD.out.facts; have y0 := (HH.out.cell 0).trans (HC2.out 0 x HX0.out); have y1 := (HH.out.cell 1).trans (HC2.out 1 y HX1.out))
                    | (go_at_call 32; refine (HDY.out _).mono ?_; rintro e w3 ⟨rfl, hb3⟩; have HD := Lib.hid (HD.out.next hb3); have HH := Lib.hid (HH.out.below hb3 HH.out.lt); clear hb3; clear t0 t1 t2 t3 u0 u1 u2 u3 r0 r1 r2 r3 v0 v1 v2 v3; clear y0 y1; obtain ⟨t0, t1, t2, t3, u0, u1, u2, u3, r0, r1, r2, r3, v0, v1, v2, v3⟩ := HD.out.facts; have y0 := (HH.out.cell 0).trans (HC2.out 0 x HX0.out); have y1 := (HH.out.cell 1).trans (HC2.out 1 y HX1.out)))
                  refine bodyPost_ret (rres_out HD.out.wiped.1 rfl rfl rfl rfl _ rfl rfl rfl) rfl ?_
                  exact ⟨.inr ⟨k + 1, 3, HE.out, rfl⟩, HD.out.wiped.2⟩
            · obtain ⟨hxb, hxb2⟩ := lit_no (l := [108, 101, 97, 112]) (B := leapB) rfl hxs
              by_cases hN2' : N = 2
              · subst hN2'
                by_cases hxe : x = endB
                · obtain ⟨hxd, hxd2⟩ := lit_yes (l := [101, 110, 100]) (B := endB) rfl hxe
                  have h3 := line_end2 (T := T) (y := y) HDD.out
                  have hw3 := two_of HNN.out HX0.out HX1.out
                  rw [hxe] at hw3
                  rw [← hw3] at h3
                  clear hw3 hxs hxe
                  by_cases hds : d ≤ T.st
                  · have dd : decide (d ≤ T.st) = true := decide_eq_true hds
                    rw [if_neg (fun h => by have := h.1; omega)] at h3
                    have H3 := Lib.hid h3
                    clear h3 hord hfew hds
                    as_aux_lemma =>
                      have HE := Lib.hid (HBad.out 12 (H3.out))
                      go_wp2_with (first
                        | (go_at_call 21; refine (HPW.out _).mono ?_; rintro e w2 ⟨A2, c2, rfl, hown, hb2⟩; obtain ⟨b2, cur2, rfl, hBb2, hcap2, hmax2, hh2, hc2⟩ := own_all hown HW1.out; have HBB := Lib.hid (show w.heap.size + 2 ≤ b2 from Nat.le_trans (by have := HD.out.base; have := HD.out.hb; have := HD.out.hB; omega) hBb2); have HD := Lib.hid (HD.out.next hb2); have HH := Lib.hid hh2; have HC2 := Lib.hid hc2; clear hown hb2 hh2 hc2 hBb2; obtain ⟨t0, t1, t2, t3, u0, u1, u2, u3, r0, r1, r2, r3, v0, v1, v2, v3⟩ := HD.out.facts; have y0 := (HH.out.cell 0).trans (HC2.out 0 x HX0.out); have y1 := (HH.out.cell 1).trans (HC2.out 1 y HX1.out))
                        | (go_at_call 32; refine (HDY.out _).mono ?_; rintro e w3 ⟨rfl, hb3⟩; have HD := Lib.hid (HD.out.next hb3); have HH := Lib.hid (HH.out.below hb3 HH.out.lt); clear hb3; clear t0 t1 t2 t3 u0 u1 u2 u3 r0 r1 r2 r3 v0 v1 v2 v3; clear y0 y1; obtain ⟨t0, t1, t2, t3, u0, u1, u2, u3, r0, r1, r2, r3, v0, v1, v2, v3⟩ := HD.out.facts; have y0 := (HH.out.cell 0).trans (HC2.out 0 x HX0.out); have y1 := (HH.out.cell 1).trans (HC2.out 1 y HX1.out)))
                      refine bodyPost_ret (rres_out HD.out.wiped.1 rfl rfl rfl rfl _ rfl rfl rfl) rfl ?_
                      exact ⟨.inr ⟨k + 1, 12, HE.out, rfl⟩, HD.out.wiped.2⟩
                  have dd : decide (d ≤ T.st) = false := decide_eq_false hds
                  by_cases hl0 : T.lp.length = 0
                  · have e0 : decide (0 < T.lp.length) = false := decide_eq_false (by omega)
                    have e0' : decide ((0 : Int) < (T.lp.length : Int)) = false := decide_eq_false (by omega)
                    have htk : takesB T.st T.lp d = true := by rw [List.eq_nil_of_length_eq_zero hl0, takes_nil]; exact decide_eq_true (by omega)
                    rw [if_pos ⟨by omega, htk⟩] at h3
                    have HG := Lib.hid (HGood.out _ _ h3)
                    clear h3 htk hord hfew hds hl0
                    as_aux_lemma =>
                      go_wp2_with (first
                        | (go_at_call 21; refine (HPW.out _).mono ?_; rintro e w2 ⟨A2, c2, rfl, hown, hb2⟩; obtain ⟨b2, cur2, rfl, hBb2, hcap2, hmax2, hh2, hc2⟩ := own_all hown HW1.out; have HBB := Lib.hid (show w.heap.size + 2 ≤ b2 from Nat.le_trans (by have := HD.out.base; have := HD.out.hb; have := HD.out.hB; omega) hBb2); have HD := Lib.hid (HD.out.next hb2); have HH := Lib.hid hh2; have HC2 := Lib.hid hc2; clear hown hb2 hh2 hc2 hBb2; obtain ⟨t0, t1, t2, t3, u0, u1, u2, u3, r0, r1, r2, r3, v0, v1, v2, v3⟩ := HD.out.facts; have y0 := (HH.out.cell 0).trans (HC2.out 0 x HX0.out); have y1 := (HH.out.cell 1).trans (HC2.out 1 y HX1.out))
                        | (go_at_call 32; refine (HDY.out _).mono ?_; rintro e w3 ⟨rfl, hb3⟩; have HD := Lib.hid (HD.out.next hb3); have HH := Lib.hid (HH.out.below hb3 HH.out.lt); clear hb3; clear t0 t1 t2 t3 u0 u1 u2 u3 r0 r1 r2 r3 v0 v1 v2 v3; clear y0 y1; obtain ⟨t0, t1, t2, t3, u0, u1, u2, u3, r0, r1, r2, r3, v0, v1, v2, v3⟩ := HD.out.facts; have y0 := (HH.out.cell 0).trans (HC2.out 0 x HX0.out); have y1 := (HH.out.cell 1).trans (HC2.out 1 y HX1.out)))
                      have HDF := Lib.hid (HD.out.put 2 (.int .i64 d) ⟨T.st, T.ah, d, T.lp⟩ rfl (fun x => rfl))
                      go_roundw
                      case rel => exact ⟨k + 1, 2, ⟨T.st, T.ah, d, T.lp⟩, _, c, HKL.out, by go_num, rfl, by decide, HG.out.2, HG.out.1, HDF.out⟩
                      case measure => simp [intOf]; omega
                  obtain ⟨i, hi⟩ : ∃ i, T.lp.length = i + 1 := ⟨T.lp.length - 1, by omega⟩
                  have e0 : decide (0 < T.lp.length) = true := decide_eq_true (by omega)
                  have e0' : (0 : Int) < (T.lp.length : Int) := by omega
                  have ewi : IntKind.i64.wrap ((T.lp.length : Int) - 1) = (i : Int) := by rw [IntWalk.i64_in _ (by omega)]; omega
                  have hil : (i : Int) < (T.lp.length : Int) := by omega
                  obtain ⟨e', he'⟩ : ∃ x, T.lp[i]? = some x := ⟨_, List.getElem?_eq_getElem (by omega)⟩
                  have hsp : T.lp = T.lp.take i ++ [e'] := by
                    obtain ⟨hk', e''⟩ := List.getElem?_eq_some_iff.1 he'
                    rw [← e'', ← List.take_succ_eq_append_getElem hk', List.take_of_length_le (by omega)]
                  obtain ⟨x', y'⟩ := e'
                  have htk : takesB T.st T.lp d = decide (x' < d) := by rw [hsp, takes_snoc]
                  obtain ⟨ba, oa, hA, _, _, _⟩ := (PRow.of_own HD.out.own).at he'
                  have hcc : T.lp.length ≤ c := (PRow.of_own HD.out.own).cap_le
                  have hcm2 := (PRow.of_own HD.out.own).max
                  unfold maxLen at hcm2
                  subst hA
                  have HEL := Lib.hid he'
                  by_cases hdx : d ≤ x'
                  · have de : decide (d ≤ x') = true := decide_eq_true hdx
                    rw [decide_eq_false (by omega)] at htk
                    rw [if_neg (fun h => by rw [htk] at h; cases h.2)] at h3
                    have H3 := Lib.hid h3
                    clear h3 htk hord hfew hds hl0 hi he' hsp hdx
                    as_aux_lemma =>
                      have HE := Lib.hid (HBad.out 12 (H3.out))
                      go_wp2_with (first
                        | (go_at_call 21; refine (HPW.out _).mono ?_; rintro e w2 ⟨A2, c2, rfl, hown, hb2⟩; obtain ⟨b2, cur2, rfl, hBb2, hcap2, hmax2, hh2, hc2⟩ := own_all hown HW1.out; have HBB := Lib.hid (show w.heap.size + 2 ≤ b2 from Nat.le_trans (by have := HD.out.base; have := HD.out.hb; have := HD.out.hB; omega) hBb2); have HD := Lib.hid (HD.out.next hb2); have HH := Lib.hid hh2; have HC2 := Lib.hid hc2; clear hown hb2 hh2 hc2 hBb2; obtain ⟨t0, t1, t2, t3, u0, u1, u2, u3, r0, r1, r2, r3, v0, v1, v2, v3⟩ := HD.out.facts; have y0 := (HH.out.cell 0).trans (HC2.out 0 x HX0.out); have y1 := (HH.out.cell 1).trans (HC2.out 1 y HX1.out))
                        | (go_at_call 32; refine (HDY.out _).mono ?_; rintro e w3 ⟨rfl, hb3⟩; have HD := Lib.hid (HD.out.next hb3); have HH := Lib.hid (HH.out.below hb3 HH.out.lt); clear hb3; clear t0 t1 t2 t3 u0 u1 u2 u3 r0 r1 r2 r3 v0 v1 v2 v3; clear y0 y1; obtain ⟨t0, t1, t2, t3, u0, u1, u2, u3, r0, r1, r2, r3, v0, v1, v2, v3⟩ := HD.out.facts; have y0 := (HH.out.cell 0).trans (HC2.out 0 x HX0.out); have y1 := (HH.out.cell 1).trans (HC2.out 1 y HX1.out); have p0 := last_cell HD.out rfl HEL.out))
                      refine bodyPost_ret (rres_out HD.out.wiped.1 rfl rfl rfl rfl _ rfl rfl rfl) rfl ?_
                      exact ⟨.inr ⟨k + 1, 12, HE.out, rfl⟩, HD.out.wiped.2⟩
                  · have de : decide (d ≤ x') = false := decide_eq_false hdx
                    rw [decide_eq_true (by omega)] at htk
                    rw [if_pos ⟨by omega, htk⟩] at h3
                    have HG := Lib.hid (HGood.out _ _ h3)
                    clear h3 htk hord hfew hds hi he' hsp hdx hl0
                    as_aux_lemma =>
                      go_wp2_with (first
                        | (go_at_call 21; refine (HPW.out _).mono ?_; rintro e w2 ⟨A2, c2, rfl, hown, hb2⟩; obtain ⟨b2, cur2, rfl, hBb2, hcap2, hmax2, hh2, hc2⟩ := own_all hown HW1.out; have HBB := Lib.hid (show w.heap.size + 2 ≤ b2 from Nat.le_trans (by have := HD.out.base; have := HD.out.hb; have := HD.out.hB; omega) hBb2); have HD := Lib.hid (HD.out.next hb2); have HH := Lib.hid hh2; have HC2 := Lib.hid hc2; clear hown hb2 hh2 hc2 hBb2; obtain ⟨t0, t1, t2, t3, u0, u1, u2, u3, r0, r1, r2, r3, v0, v1, v2, v3⟩ := HD.out.facts; have y0 := (HH.out.cell 0).trans (HC2.out 0 x HX0.out); have y1 := (HH.out.cell 1).trans (HC2.out 1 y HX1.out))
                        | (go_at_call 32; refine (HDY.out _).mono ?_; rintro e w3 ⟨rfl, hb3⟩; have HD := Lib.hid (HD.out.next hb3); have HH := Lib.hid (HH.out.below hb3 HH.out.lt); clear hb3; clear t0 t1 t2 t3 u0 u1 u2 u3 r0 r1 r2 r3 v0 v1 v2 v3; clear y0 y1; obtain ⟨t0, t1, t2, t3, u0, u1, u2, u3, r0, r1, r2, r3, v0, v1, v2, v3⟩ := HD.out.facts; have y0 := (HH.out.cell 0).trans (HC2.out 0 x HX0.out); have y1 := (HH.out.cell 1).trans (HC2.out 1 y HX1.out); have p0 := last_cell HD.out rfl HEL.out))
                      have HDF := Lib.hid (HD.out.put 2 (.int .i64 d) ⟨T.st, T.ah, d, T.lp⟩ rfl (fun x => rfl))
                      go_roundw
                      case rel => exact ⟨k + 1, 2, ⟨T.st, T.ah, d, T.lp⟩, _, c, HKL.out, by go_num, rfl, by decide, HG.out.2, HG.out.1, HDF.out⟩
                      case measure => simp [intOf]; omega
                · obtain ⟨hxd, hxd2⟩ := lit_no (l := [101, 110, 100]) (B := endB) rfl hxe
                  have H3 := Lib.hid (line_end_bad (T := T) HX0.out hxs (.inr hxe))
                  clear hxs hxe hord hfew
                  as_aux_lemma =>
                    have HE := Lib.hid (HBad.out 3 (H3.out))
                    go_wp2_with (first
                      | (go_at_call 21; refine (HPW.out _).mono ?_; rintro e w2 ⟨A2, c2, rfl, hown, hb2⟩; obtain ⟨b2, cur2, rfl, hBb2, hcap2, hmax2, hh2, hc2⟩ := own_all hown HW1.out; have HBB := Lib.hid (show w.heap.size + 2 ≤ b2 from Nat.le_trans (by have := HD.out.base; have := HD.out.hb; have := HD.out.hB; omega) hBb2); have HD := Lib.hid (HD.out.next hb2); have HH := Lib.hid hh2; have HC2 := Lib.hid hc2; clear hown hb2 hh2 hc2 hBb2; obtain ⟨t0, t1, t2, t3, u0, u1, u2, u3, r0, r1, r2, r3, v0, v1, v2, v3⟩ := HD.out.facts; have y0 := (HH.out.cell 0).trans (HC2.out 0 x HX0.out); have y1 := (HH.out.cell 1).trans (HC2.out 1 y HX1.out))
                      | (go_at_call 32; refine (HDY.out _).mono ?_; rintro e w3 ⟨rfl, hb3⟩; have HD := Lib.hid (HD.out.next hb3); have HH := Lib.hid (HH.out.below hb3 HH.out.lt); clear hb3; clear t0 t1 t2 t3 u0 u1 u2 u3 r0 r1 r2 r3 v0 v1 v2 v3; clear y0 y1; obtain ⟨t0, t1, t2, t3, u0, u1, u2, u3, r0, r1, r2, r3, v0, v1, v2, v3⟩ := HD.out.facts; have y0 := (HH.out.cell 0).trans (HC2.out 0 x HX0.out); have y1 := (HH.out.cell 1).trans (HC2.out 1 y HX1.out)))
                    refine bodyPost_ret (rres_out HD.out.wiped.1 rfl rfl rfl rfl _ rfl rfl rfl) rfl ?_
                    exact ⟨.inr ⟨k + 1, 3, HE.out, rfl⟩, HD.out.wiped.2⟩
              · have n3 : ((N : Int) != 2) = true := by simp; omega
                have n3' : ((N : Int) == 2) = false := beq_no (by omega)
                have H3 := Lib.hid (line_end_bad (T := T) HX0.out hxs (.inl (by rw [HNN.out]; exact hN2')))
                clear hxs hord hfew
                as_aux_lemma =>
                  have HE := Lib.hid (HBad.out 3 (H3.out))
                  go_wp2_with (first
                    | (go_at_call 21; refine (HPW.out _).mono ?_; rintro e w2 ⟨A2, c2, rfl, hown, hb2⟩; obtain ⟨b2, cur2, rfl, hBb2, hcap2, hmax2, hh2, hc2⟩ := own_all hown HW1.out; have HBB := Lib.hid (show w.heap.size + 2 ≤ b2 from Nat.le_trans (by have := HD.out.base; have := HD.out.hb; have := HD.out.hB; omega) hBb2); have HD := Lib.hid (HD.out.next hb2); have HH := Lib.hid hh2; have HC2 := Lib.hid hc2; clear hown hb2 hh2 hc2 hBb2; obtain ⟨t0, t1, t2, t3, u0, u1, u2, u3, r0, r1, r2, r3, v0, v1, v2, v3⟩ := HD.out.facts; have y0 := (HH.out.cell 0).trans (HC2.out 0 x HX0.out); have y1 := (HH.out.cell 1).trans (HC2.out 1 y HX1.out))
                    | (go_at_call 32; refine (HDY.out _).mono ?_; rintro e w3 ⟨rfl, hb3⟩; have HD := Lib.hid (HD.out.next hb3); have HH := Lib.hid (HH.out.below hb3 HH.out.lt); clear hb3; clear t0 t1 t2 t3 u0 u1 u2 u3 r0 r1 r2 r3 v0 v1 v2 v3; clear y0 y1; obtain ⟨t0, t1, t2, t3, u0, u1, u2, u3, r0, r1, r2, r3, v0, v1, v2, v3⟩ := HD.out.facts; have y0 := (HH.out.cell 0).trans (HC2.out 0 x HX0.out); have y1 := (HH.out.cell 1).trans (HC2.out 1 y HX1.out)))
                  refine bodyPost_ret (rres_out HD.out.wiped.1 rfl rfl rfl rfl _ rfl rfl rfl) rfl ?_
                  exact ⟨.inr ⟨k + 1, 3, HE.out, rfl⟩, HD.out.wiped.2⟩
    · have hkn : k = n := by omega
      subst hkn
      rw [List.drop_eq_nil_of_le (by have := HNn.out; omega)] at hw
      unfold walkR at hw
      have hltI : decide ((k : Int) < (k : Int)) = false := decide_eq_false (by omega)
      by_cases h2 : st = 2
      · rw [if_pos h2] at hw
        have HW := Lib.hid hw.symm
        subst h2
        obtain ⟨t0, t1, t2, t3, u0, u1, u2, u3, r0, r1, r2, r3, v0, v1, v2, v3⟩ := HD.out.facts
        clear hw hd hinv hst hlt hk
        go_wp2
        refine bodyPost_ret (rres_out (filled HD.out).1 rfl rfl rfl rfl _ rfl rfl rfl) rfl ?_
        exact ⟨.inl ⟨T, A, c, HW.out, rfl, (filled HD.out).2.1⟩, (filled HD.out).2.2⟩
      · rw [if_neg h2] at hw
        have HW := Lib.hid hw.symm
        have hcs : st = 0 ∨ st = 1 := by omega
        obtain ⟨t0, t1, t2, t3, u0, u1, u2, u3, r0, r1, r2, r3, v0, v1, v2, v3⟩ := HD.out.facts
        clear hw hd hinv hst hlt hk h2
        rcases hcs with rfl | rfl
        · go_wp2
          refine bodyPost_ret (rres_out HD.out.wiped.1 rfl rfl rfl rfl _ rfl rfl rfl) rfl ?_
          exact ⟨.inr ⟨k, 3, HW.out, rfl⟩, HD.out.wiped.2⟩
        · go_wp2
          refine bodyPost_ret (rres_out HD.out.wiped.1 rfl rfl rfl rfl _ rfl rfl rfl) rfl ?_
          exact ⟨.inr ⟨k, 3, HW.out, rfl⟩, HD.out.wiped.2⟩
end Go.Proofs.YtiglhmdiiajmhaaDoor

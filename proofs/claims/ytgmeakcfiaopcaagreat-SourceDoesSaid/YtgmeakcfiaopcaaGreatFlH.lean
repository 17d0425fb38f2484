/- Package flood: Time. -/
import Derived.Test.YtgmeakcfiaopcaaGreatFlD
import Derived.Test.YtgmeakcfiaopcaaGreatGbB
import Derived.Test.YtgmeakcfiaopcaaGreatGbC
namespace Go.Proofs.YtgmeakcfiaopcaaGreat
open Go.RowKit
set_option linter.unusedVariables false
set_option linter.unusedSimpArgs false

theorem ftime_nil (w : World) (lo : Int) : Calls Tryz.prog 55 #[.pointer none, .int .i64 lo] w fun e w' => e = .returned (.tuple #[.int .i64 0, .int .i64 0, .int .i64 2]) ∧ w = w' := by
  go_enter Tryz.func55, Tryz.ntmps55
  go_wp2
  go_ret3
  exact ⟨rfl, rfl⟩
set_option maxHeartbeats 1000000 in
set_option maxRecDepth 100000 in
theorem ftell_any (w : World) (B gf g b n : Nat) (f : FS) (h : Fo w B gf g b n f) (hI : FInv f) (lo g' hp v : Int) (hs : Tells f lo g' hp v) :
    Calls Tryz.prog 55 #[.pointer (some ⟨gf, 0, none⟩), .int .i64 lo] w fun e w' => e = .returned (.tuple #[.int .i64 g', .int .i64 hp, .int .i64 v]) ∧ Below w.heap.size w w' := by
  have hsy := synced_any w B gf g b n f h
  have ht := fun W => ftime_any lo W
  have HF := Lib.hid (fun V (hb : Below w.heap.size w V) => h.below hb)
  have HMi := Lib.hid (fun V (hw : Fo V B gf g b n f) => mine_at hw.node (v := minB f) rfl)
  have HB0 := Lib.hid (Below.refl w.heap.size w)
  rcases hs with ⟨e1, rfl, rfl, rfl⟩ | ⟨e1, e2, rfl, rfl, rfl⟩ | ⟨e1, e2, e3, rfl, rfl, rfl⟩ | ⟨e1, e2, e3, G, ok, hg, hout⟩
  · simp only [e1] at hsy
    clear h hI e1
    go_enter Tryz.func55, Tryz.ntmps55
    go_wp2_with (go_at_call 26; (with_reducible refine hsy.mono ?_); rintro e wx ⟨rfl, nq, rfl⟩)
    go_ret3
    exact ⟨rfl, below_drewN HB0.out nq⟩
  · simp only [e1] at hsy
    simp only [e2] at ht
    clear h hI e1 e2
    go_enter Tryz.func55, Tryz.ntmps55
    go_wp2_with (first
      | (go_at_call 26; (with_reducible refine hsy.mono ?_); rintro e wx ⟨rfl, nq, rfl⟩)
      | (go_at_call 31; (with_reducible refine (ht _).mono ?_); rintro e wx ⟨rfl, hwx⟩; subst wx))
    go_ret3
    exact ⟨rfl, below_drewN HB0.out nq⟩
  · simp only [e1] at hsy
    simp only [e2] at ht
    simp only [e3] at HMi
    clear h hI e1 e2 e3
    go_enter Tryz.func55, Tryz.ntmps55
    go_wp2_with (first
      | (go_at_call 26; (with_reducible refine hsy.mono ?_); rintro e wx ⟨rfl, nq, rfl⟩; have hF := HF.out _ (below_drewN HB0.out nq); have k0 := hF.cells.1; have hmi := HMi.out _ hF; clear hF)
      | (go_at_call 31; (with_reducible refine (ht _).mono ?_); rintro e wx ⟨rfl, hwx⟩; subst wx)
      | (go_at_call 40; (with_reducible refine hmi.mono ?_); rintro e wx ⟨rfl, nr, rfl⟩))
    go_ret3
    exact ⟨rfl, by first | exact below_drewN HB0.out _ | exact below_drewN (below_drewN HB0.out _) _⟩
  · have hL := syn_some hI e3 e1
    have hmo := map_ok f.drift hI.ents hL
    have HOf := Lib.hid (fun V (hw : Fo V B gf g b n f) => globe_some f.drift V _ f.L hw.tab.src hL hI.ents.can)
    have HGl := Lib.hid (fun V => global_any _ _ _ _ _ _ (mostL f.L) lo G ok V hmo hg)
    simp only [e1] at hsy
    simp only [e2] at ht
    simp only [e3] at HMi
    have hdr : ∀ V, Fo V B gf g b n f → V.cell? ⟨gf, 5, none⟩ = some (.int .i64 f.drift) := fun V hV => hV.cells.2.2.2.1
    have HD := Lib.hid hdr
    unfold mapOf at HOf
    obtain ⟨l, hl⟩ : ∃ l, locV f.L = l := ⟨_, rfl⟩
    obtain ⟨o, ho⟩ : ∃ o, offV f.L = o := ⟨_, rfl⟩
    obtain ⟨x, hx⟩ : ∃ x, (ofV f.drift f.L).1 = x := ⟨_, rfl⟩
    obtain ⟨y, hy⟩ : ∃ y, (ofV f.drift f.L).2 = y := ⟨_, rfl⟩
    obtain ⟨m, hm⟩ : ∃ m, mostL f.L = m := ⟨_, rfl⟩
    simp only [hl, ho, hx, hy, hm] at HOf HGl hout
    unfold mapV at HOf HGl
    clear h hI e1 e2 e3 hL hmo hg hdr hl ho hx hy hm
    go_enter Tryz.func55, Tryz.ntmps55
    go_upto_region 9 with (first
      | (go_at_call 26; (with_reducible refine hsy.mono ?_); rintro e wx ⟨rfl, nq, rfl⟩; have hF := HF.out _ (below_drewN HB0.out nq); have k0 := hF.cells.1; have hmi := HMi.out _ hF; clear hF)
      | (go_at_call 31; (with_reducible refine (ht _).mono ?_); rintro e wx ⟨rfl, hwx⟩; subst wx)
      | (go_at_call 40; (with_reducible refine hmi.mono ?_); rintro e wx ⟨rfl, nr, rfl⟩))
    have hbV : Below w.heap.size w (w.drewN (nq + nr)) := below_drewN HB0.out _
    clear k0 hmi hsy
    generalize w.drewN (nq + nr) = V at *
    have hb1 := hbV.drew
    have hF1 := HF.out _ hb1
    have d1 := HD.out _ hF1
    have of1 := HOf.out _ hF1
    have hb2 := (hbV.alloc (o := .cells #[.int .i64 0, .int .i64 0, .int .i64 0, .int .i64 0, .int .i64 0] 142) hbV.size).drew
    have hF2 := HF.out _ hb2
    have d2 := HD.out _ hF2
    have of2 := HOf.out _ hF2
    have HB1 := Lib.hid hb1
    have HB2 := Lib.hid hb2
    have hwV := hbV.size
    clear hb1 hb2 hF1 hF2 hbV
    go_region_with (first
      | (go_at_call 70; (with_reducible refine of1.mono ?_); rintro e w8 ⟨rfl, hb8⟩; have HB8 := Lib.hid (HB1.out.trans (hb8.mono HB1.out.size)))
      | (go_at_call 70; (with_reducible refine of2.mono ?_); rintro e w8 ⟨rfl, hb8⟩; have HB8 := Lib.hid (HB2.out.trans (hb8.mono HB2.out.size)); have HN := Lib.hid (Holds.below (show Holds (V.alloc (.cells #[.int .i64 0, .int .i64 0, .int .i64 0, .int .i64 0, .int .i64 0] 142)).drew V.heap.size 142 #[.int .i64 0, .int .i64 0, .int .i64 0, .int .i64 0, .int .i64 0] from (Holds.new V _ _).drewN 1) hb8 (Holds.lt (show Holds (V.alloc (.cells #[.int .i64 0, .int .i64 0, .int .i64 0, .int .i64 0, .int .i64 0] 142)).drew V.heap.size 142 #[.int .i64 0, .int .i64 0, .int .i64 0, .int .i64 0, .int .i64 0] from (Holds.new V _ _).drewN 1))); have x0 := HN.out.cell 0; have x1 := HN.out.cell 1; have x2 := HN.out.cell 2; have x3 := HN.out.cell 3; have x4 := HN.out.cell 4; have s0 := HN.out.soft 0; have s1 := HN.out.soft 1; have s2 := HN.out.soft 2; have s3 := HN.out.soft 3; have s4 := HN.out.soft 4))
    · obtain ⟨W9, hW9⟩ : ∃ W9, W9 = w8.alloc (.cells #[.int .i64 l, .int .i64 o, .int .i64 x, .int .i64 y, .int .i64 m] 142) := ⟨_, rfl⟩
      have HM : Hid (Holds W9 w8.heap.size 142 #[.int .i64 l, .int .i64 o, .int .i64 x, .int .i64 y, .int .i64 m]) := Lib.hid (by rw [hW9]; exact Holds.new _ _ _)
      have HBz : Hid (Below w.heap.size w W9) := Lib.hid (by rw [hW9]; exact HB8.out.alloc HB8.out.size _)
      rw [← hW9]
      have m0 := HM.out.cell 0
      have m1 := HM.out.cell 1
      have m2 := HM.out.cell 2
      have m3 := HM.out.cell 3
      have m4 := HM.out.cell 4
      clear hW9
      rcases hout with ⟨rfl, rfl, rfl, rfl⟩ | ⟨rfl, rfl, rfl, rfl⟩
      · go_upto_region 13 with (go_at_call 71; (with_reducible refine (HGl.out _).mono ?_); rintro e w10 ⟨rfl, hb10⟩; have HMz := Lib.hid (HM.out.below hb10 HM.out.lt); have HBy := Lib.hid (HBz.out.trans (hb10.mono HBz.out.size)); have n4 := HMz.out.cell 4; clear hb10 m0 m1 m2 m3 m4)
        go_quiet (fail)
        go_wp2
        go_ret3
        exact ⟨rfl, below_drewN HBy.out _⟩
      · go_wp2_with (go_at_call 71; (with_reducible refine (HGl.out _).mono ?_); rintro e w10 ⟨rfl, hb10⟩; have HBy := Lib.hid (HBz.out.trans (hb10.mono HBz.out.size)); clear hb10 m0 m1 m2 m3 m4)
        go_ret3
        exact ⟨rfl, HBy.out⟩
    · obtain ⟨W9, hW9⟩ : ∃ W9, W9 = (((((w8.setCell ⟨V.heap.size, 0, none⟩ (.int .i64 l)).setCell ⟨V.heap.size, 1, none⟩ (.int .i64 o)).setCell ⟨V.heap.size, 2, none⟩ (.int .i64 x)).setCell ⟨V.heap.size, 3, none⟩ (.int .i64 y)).setCell ⟨V.heap.size, 4, none⟩ (.int .i64 m)) := ⟨_, rfl⟩
      have HM : Hid (Holds W9 V.heap.size 142 #[.int .i64 l, .int .i64 o, .int .i64 x, .int .i64 y, .int .i64 m]) := Lib.hid (by rw [hW9]; exact (((((HN.out.put 0 _).put 1 _).put 2 _).put 3 _).put 4 _))
      have HBz : Hid (Below w.heap.size w W9) := Lib.hid (by rw [hW9]; exact ((((HB8.out.setCell (p := ⟨V.heap.size, 0, none⟩) hwV _).setCell (p := ⟨V.heap.size, 1, none⟩) hwV _).setCell (p := ⟨V.heap.size, 2, none⟩) hwV _).setCell (p := ⟨V.heap.size, 3, none⟩) hwV _).setCell (p := ⟨V.heap.size, 4, none⟩) hwV _)
      rw [← hW9]
      have m0 := HM.out.cell 0
      have m1 := HM.out.cell 1
      have m2 := HM.out.cell 2
      have m3 := HM.out.cell 3
      have m4 := HM.out.cell 4
      clear hW9
      rcases hout with ⟨rfl, rfl, rfl, rfl⟩ | ⟨rfl, rfl, rfl, rfl⟩
      · go_upto_region 13 with (go_at_call 71; (with_reducible refine (HGl.out _).mono ?_); rintro e w10 ⟨rfl, hb10⟩; have HMz := Lib.hid (HM.out.below hb10 HM.out.lt); have HBy := Lib.hid (HBz.out.trans (hb10.mono HBz.out.size)); have n4 := HMz.out.cell 4; clear hb10 m0 m1 m2 m3 m4)
        go_quiet (fail)
        go_wp2
        go_ret3
        exact ⟨rfl, below_drewN HBy.out _⟩
      · go_wp2_with (go_at_call 71; (with_reducible refine (HGl.out _).mono ?_); rintro e w10 ⟨rfl, hb10⟩; have HBy := Lib.hid (HBz.out.trans (hb10.mono HBz.out.size)); clear hb10 m0 m1 m2 m3 m4)
        go_ret3
        exact ⟨rfl, HBy.out⟩
    · obtain ⟨W9, hW9⟩ : ∃ W9, W9 = (((((w8.setCell ⟨V.heap.size, 0, none⟩ (.int .i64 l)).setCell ⟨V.heap.size, 1, none⟩ (.int .i64 o)).setCell ⟨V.heap.size, 2, none⟩ (.int .i64 x)).setCell ⟨V.heap.size, 3, none⟩ (.int .i64 y)).setCell ⟨V.heap.size, 4, none⟩ (.int .i64 m)) := ⟨_, rfl⟩
      have HM : Hid (Holds W9 V.heap.size 142 #[.int .i64 l, .int .i64 o, .int .i64 x, .int .i64 y, .int .i64 m]) := Lib.hid (by rw [hW9]; exact (((((HN.out.put 0 _).put 1 _).put 2 _).put 3 _).put 4 _))
      have HBz : Hid (Below w.heap.size w W9) := Lib.hid (by rw [hW9]; exact ((((HB8.out.setCell (p := ⟨V.heap.size, 0, none⟩) hwV _).setCell (p := ⟨V.heap.size, 1, none⟩) hwV _).setCell (p := ⟨V.heap.size, 2, none⟩) hwV _).setCell (p := ⟨V.heap.size, 3, none⟩) hwV _).setCell (p := ⟨V.heap.size, 4, none⟩) hwV _)
      rw [← hW9]
      have m0 := HM.out.cell 0
      have m1 := HM.out.cell 1
      have m2 := HM.out.cell 2
      have m3 := HM.out.cell 3
      have m4 := HM.out.cell 4
      clear hW9
      rcases hout with ⟨rfl, rfl, rfl, rfl⟩ | ⟨rfl, rfl, rfl, rfl⟩
      · go_upto_region 13 with (go_at_call 71; (with_reducible refine (HGl.out _).mono ?_); rintro e w10 ⟨rfl, hb10⟩; have HMz := Lib.hid (HM.out.below hb10 HM.out.lt); have HBy := Lib.hid (HBz.out.trans (hb10.mono HBz.out.size)); have n4 := HMz.out.cell 4; clear hb10 m0 m1 m2 m3 m4)
        go_quiet (fail)
        go_wp2
        go_ret3
        exact ⟨rfl, below_drewN HBy.out _⟩
      · go_wp2_with (go_at_call 71; (with_reducible refine (HGl.out _).mono ?_); rintro e w10 ⟨rfl, hb10⟩; have HBy := Lib.hid (HBz.out.trans (hb10.mono HBz.out.size)); clear hb10 m0 m1 m2 m3 m4)
        go_ret3
        exact ⟨rfl, HBy.out⟩
end Go.Proofs.YtgmeakcfiaopcaaGreat

/- Package flood: Beat. -/
import Derived.Test.YtgmeakcfiaopcaaGreatFlE
namespace Go.Proofs.YtgmeakcfiaopcaaGreat
open Go.RowKit
set_option linter.unusedVariables false
set_option linter.unusedSimpArgs false

section
variable {w0 W : World} {B gf g b b' n' : Nat} {f : FS} {T : TypeId} {C : List Value}
/-- The call's own variable is written whole. -/
theorem Fw.put (h : Fw w0 B gf g b T C.toArray f b' n' W) (D : List Value) (hl : D.length = C.length) : Holds (W.setRow w0.heap.size (splice C 0 D).toArray) w0.heap.size T D.toArray ∧ FGoes B gf g b n' f w0 (W.setRow w0.heap.size (splice C 0 D).toArray) := by
  rw [splice_all C D hl]
  obtain ⟨o1, o2, o3⟩ := h.old
  have hap := h.fo.node.km.apart h.box
  have hc : Chg (fun k => k = w0.heap.size) W (W.setRow w0.heap.size D.toArray) := Chg.of_grown (grown_row W w0.heap.size _) (fun k e => by cases e; rfl)
  refine ⟨h.box.row _, b', h.fo.chg hc (fun k hk e => ?_), h.chg.trans hc (fun k hk e => by omega), h.mv⟩
  rcases hk with e1 | e1 | e1
  · omega
  · omega
  · exact hap (e.symm.trans e1)
end
theorem fbeat_nil (w : World) (lo : Int) : Calls Tryz.prog 17 #[.pointer none, .int .i64 lo] w fun e w' => e = .returned (.tuple #[wordV noW, .bool false]) ∧ Below w.heap.size w w' := by
  have HR := Lib.hid (Box.start w 63 #[.int .i64 0, .int .i64 0, .int .u16 0, .int .u16 0, .int .i64 0, .int .i64 0])
  go_enter Tryz.func17, Tryz.ntmps17
  go_wp2_with (refine wpList_store_at rfl 63 (.tmp 4) (.tmp 10) rfl w.heap.size 0 (wordC noW) rfl rfl 63 zeroW HR.out.holds sync_size (Nat.le_refl 6) (wordC_one _) ?_)
  have HE := word_put (C := zeroW) HR.out rfl noW
  refine bodyPost_ret (results_row_tmp rfl _ _ w.heap.size 63 (wordC noW) _ _ rfl HE.holds Tryz.underlying63 rfl sync_size rfl) rfl ?_
  exact ⟨rfl, HE.below⟩
theorem says_ways {f f' : FS} {lo : Int} {W : W6} {ok : Bool} (h : Says f lo W ok f') : (timeB lo = false ∧ W = noW ∧ ok = false ∧ f' = f) ∨
    (timeB lo = true ∧ minB f = true ∧ W = (f.s.me, f.s.root, f.s.boot, nextV f.s.seq, 0, lo) ∧ ok = true ∧ f' = f.at (issueS f.s)) ∨ (timeB lo = true ∧ minB f = false ∧ synB f = false ∧ W = noW ∧ ok = false ∧ f' = f) ∨
    (timeB lo = true ∧ minB f = false ∧ synB f = true ∧ f' = f ∧ (timeB (f.pg + (lo - f.pl)) = true ∧ W = (f.s.me, f.s.root, (saidV f.s).1, (saidV f.s).2, f.ph, f.pg + (lo - f.pl)) ∧ ok = true ∨ timeB (f.pg + (lo - f.pl)) = false ∧ W = noW ∧ ok = false)) := by
  rcases h with h | h | h | ⟨h1, h2, h3, h4, h5, h6, h7⟩ | ⟨h1, h2, h3, h4, h5, h6, h7⟩
  · exact .inl h
  · exact .inr (.inl h)
  · exact .inr (.inr (.inl h))
  · exact .inr (.inr (.inr ⟨h1, h2, h3, h7, .inl ⟨h4, h5, h6⟩⟩))
  · exact .inr (.inr (.inr ⟨h1, h2, h3, h7, .inr ⟨h4, h5, h6⟩⟩))
theorem min_syn {f : FS} (h : minB f = true) : synB f = true := decide_eq_true (.inl (of_decide_eq_true h))
set_option maxHeartbeats 1000000 in
set_option maxRecDepth 100000 in
theorem fbeat_any (w : World) (B gf g b n : Nat) (f : FS) (h : Fo w B gf g b n f) (hI : FInv f) (lo : Int) (hlf : Fits lo) (W : W6) (ok : Bool) (f' : FS) (hs : Says (beatF f) lo W ok f') :
    Calls Tryz.prog 17 #[.pointer (some ⟨gf, 0, none⟩), .int .i64 lo] w fun e w' => e = .returned (.tuple #[wordV W, .bool ok]) ∧ FGoes B gf g b n f' w w' := by
  have HV := Lib.hid (Fw.start h 63 #[.int .i64 0, .int .i64 0, .int .u16 0, .int .u16 0, .int .i64 0, .int .i64 0])
  have g0 := HV.out.fo.cells.1
  obtain ⟨D, hD⟩ : ∃ D, beatB f.s = D := ⟨_, rfl⟩
  obtain ⟨S, hS⟩ : ∃ S, beatS f.s = S := ⟨_, rfl⟩
  have hbt := beat_at HV.out.fo.node hD hS
  have hrul := beat_rules f.s
  rw [hS] at hrul
  have HRu := Lib.hid hrul
  have HFg := Lib.hid (fun W b' n' f' (hw : Fw w B gf g b 63 #[.int .i64 0, .int .i64 0, .int .u16 0, .int .u16 0, .int .i64 0, .int .i64 0] f' b' n' W) => forget_any W B gf g b' n' f' hw.fo)
  obtain ⟨F, hF⟩ : ∃ F, beatF f = F := ⟨_, rfl⟩
  have hFI : FInv F := by rw [← hF]; exact hI.beat
  have hFF : F = if D = true then (f.at S).clear else f.at S := by rw [← hF, ← hD, ← hS]; rfl
  rw [hF] at hs
  have HFF := Lib.hid hFF
  have HFI := Lib.hid hFI
  have ht := fun W => ftime_any lo W
  have HSy := Lib.hid (fun V b' n' (hw : Fw w B gf g b 63 #[.int .i64 0, .int .i64 0, .int .u16 0, .int .u16 0, .int .i64 0, .int .i64 0] F b' n' V) => synced_any V B gf g b' n' F hw.fo)
  have HMi := Lib.hid (fun V b' n' (hw : Fw w B gf g b 63 #[.int .i64 0, .int .i64 0, .int .u16 0, .int .u16 0, .int .i64 0, .int .i64 0] F b' n' V) => mine_at hw.fo.node (v := minB F) rfl)
  have HS := Lib.hid (says_ways hs)
  clear h hI hD hS hrul hF hFI hFF hs
  cases D
  case' false =>
    go_enter Tryz.func17, Tryz.ntmps17
    go_upto_region 5 with (first
      | (go_at_call 39; refine hbt.mono ?_; rintro e w4 ⟨rfl, hg4⟩; obtain ⟨b5, hW5⟩ := HV.out.goes (HV.out.fo.node_goes hg4 HRu.out); rw [show f.at S = F from HFF.out.symm] at hW5; have HW := Lib.hid hW5; clear hg4 hW5 hbt))
  case' true =>
    go_enter Tryz.func17, Tryz.ntmps17
    go_upto_region 5 with (first
      | (go_at_call 39; refine hbt.mono ?_; rintro e w3 ⟨rfl, hg3⟩; obtain ⟨b4, hW3⟩ := HV.out.goes (HV.out.fo.node_goes hg3 HRu.out); have hfg := HFg.out _ _ _ _ hW3; have HW3 := Lib.hid hW3; clear hg3 hW3 hbt)
      | (go_at_call 33; refine hfg.mono ?_; rintro e w4 ⟨rfl, hg4⟩; obtain ⟨b5, hW5⟩ := HW3.out.goes hg4; rw [show (f.at S).clear = F from HFF.out.symm] at hW5; have HW := Lib.hid hW5; clear hg4 hW5 hfg))
  all_goals
    have hsy := HSy.out _ _ _ HW.out
    clear HV g0 HRu HFg HFF HSy
    rcases HS.out with ⟨e1, rfl, rfl, hf'⟩ | ⟨e1, e2, rfl, rfl, hf'⟩ | ⟨e1, e2, e3, rfl, rfl, hf'⟩ | ⟨e1, e2, e3, hf', h45⟩
    · have hf2 := hf'.symm
      subst hf2
      simp only [e1] at ht
      clear hsy HMi HFI HS
      go_wp2_with (first
        | (go_at_call 31; (with_reducible refine (ht _).mono ?_); rintro e wx ⟨rfl, hwx⟩; subst wx)
        | (refine wpList_store_at rfl 63 (.tmp 4) (.tmp 26) rfl w.heap.size 0 (wordC noW) rfl rfl 63 zeroW HW.out.box sync_size (Nat.le_refl 6) (wordC_one _) ?_))
      have HE := Fw.put (C := zeroW) HW.out (wordC noW) rfl
      refine bodyPost_ret (results_row_tmp rfl _ _ w.heap.size 63 (wordC noW) _ _ rfl HE.1 Tryz.underlying63 rfl sync_size rfl) rfl ?_
      exact ⟨rfl, HE.2⟩
    · have e3 := min_syn e2
      subst hf'
      simp only [e1] at ht
      simp only [e3] at hsy
      simp only [e2] at HMi
      have hroot : F.s.root = F.s.me := of_decide_eq_true e2
      obtain ⟨r1, r2⟩ := issue_root F.s
      have hrul := issue_rules F.s
      have HIs := Lib.hid (fun V b' n' (hw : Fw w B gf g b 63 #[.int .i64 0, .int .i64 0, .int .u16 0, .int .u16 0, .int .i64 0, .int .i64 0] F b' n' V) => issue_at hw.fo.node)
      rw [show issueV F.s = (F.s.boot, nextV F.s.seq) from if_pos hroot, decide_eq_true hroot] at HIs
      have HRl := Lib.hid hrul
      have HWd := Lib.hid (fun V b' n' (hw : Fw w B gf g b 63 #[.int .i64 0, .int .i64 0, .int .u16 0, .int .u16 0, .int .i64 0, .int .i64 0] (F.at (issueS F.s)) b' n' V) => word_any V B gf g b' n' (F.at (issueS F.s)) hw.fo F.s.boot (nextV F.s.seq) 0 lo 0)
      have hr1 : (F.at (issueS F.s)).s.root = F.s.root := r1
      have hr2 : (F.at (issueS F.s)).s.me = F.s.me := r2
      rw [hr1, hr2] at HWd
      unfold wordV at HWd
      clear r1 r2 hr1 hr2 hrul hroot HFI HS e2 e3
      go_wp2_with (first
        | (go_at_call 31; (with_reducible refine (ht _).mono ?_); rintro e wx ⟨rfl, hwx⟩; subst wx)
        | (go_at_call 26; (with_reducible refine hsy.mono ?_); rintro e wx ⟨rfl, nq, rfl⟩; have HWa := Lib.hid (HW.out.drewN nq); have hmi := HMi.out _ _ _ HWa.out; have k0 := HWa.out.fo.cells.1)
        | (go_at_call 40; (with_reducible refine hmi.mono ?_); rintro e wx ⟨rfl, nr, rfl⟩; have hWb := HWa.out.drewN nr; rw [fdrew_two] at hWb; have k1 := hWb.fo.cells.1; have HWb := Lib.hid hWb; clear k0 hmi hWb)
        | (go_at_call 41; refine (HIs.out _ _ _ HWb.out).mono ?_; rintro e w6 ⟨rfl, hg6⟩; obtain ⟨b6, hW6⟩ := HWb.out.goes (HWb.out.fo.node_goes hg6 HRl.out); have HWc := Lib.hid (hW6.below (below_alloc _ (.cells #[.int .u16 F.s.boot, .int .u16 (nextV F.s.seq)] 99))); have hwd := HWd.out _ _ _ HWc.out; have HMk := Lib.hid (Holds.new w6 99 #[.int .u16 F.s.boot, .int .u16 (nextV F.s.seq)]); have m0 := HMk.out.cell 0; have m1 := HMk.out.cell 1; clear hg6 hW6)
        | (go_at_call 42; (with_reducible refine hwd.mono ?_); rintro e w7 ⟨rfl, hb7⟩; have HWe := Lib.hid (HWc.out.below hb7); clear hwd hb7)
        | (refine wpList_store_at rfl 63 (.tmp 4) (.tmp 44) rfl w.heap.size 0 (wordC (F.s.me, F.s.root, F.s.boot, nextV F.s.seq, 0, lo)) rfl rfl 63 zeroW HWe.out.box sync_size (Nat.le_refl 6) (wordC_one _) ?_))
      have HE := Fw.put (C := zeroW) HWe.out (wordC (F.s.me, F.s.root, F.s.boot, nextV F.s.seq, 0, lo)) rfl
      refine bodyPost_ret (results_row_tmp rfl _ _ w.heap.size 63 (wordC (F.s.me, F.s.root, F.s.boot, nextV F.s.seq, 0, lo)) _ _ rfl HE.1 Tryz.underlying63 rfl sync_size rfl) rfl ?_
      exact ⟨rfl, HE.2⟩
    · have hf2 := hf'.symm
      subst hf2
      simp only [e1] at ht
      simp only [e3] at hsy
      clear HMi HFI HS e2 e3
      go_wp2_with (first
        | (go_at_call 31; (with_reducible refine (ht _).mono ?_); rintro e wx ⟨rfl, hwx⟩; subst wx)
        | (go_at_call 26; (with_reducible refine hsy.mono ?_); rintro e wx ⟨rfl, nq, rfl⟩; have HWa := Lib.hid (HW.out.drewN nq))
        | (refine wpList_store_at rfl 63 (.tmp 4) (.tmp 26) rfl w.heap.size 0 (wordC noW) rfl rfl 63 zeroW HWa.out.box sync_size (Nat.le_refl 6) (wordC_one _) ?_))
      have HE := Fw.put (C := zeroW) HWa.out (wordC noW) rfl
      refine bodyPost_ret (results_row_tmp rfl _ _ w.heap.size 63 (wordC noW) _ _ rfl HE.1 Tryz.underlying63 rfl sync_size rfl) rfl ?_
      exact ⟨rfl, HE.2⟩
    · have hf2 := hf'.symm
      subst hf2
      have HP := Lib.hid (fun V b' n' (hw : Fw w B gf g b 63 #[.int .i64 0, .int .i64 0, .int .u16 0, .int .u16 0, .int .i64 0, .int .i64 0] F b' n' V) => pass_any V B gf g b' n' F hw.fo HFI.out e2 e3 lo e1 W ok h45)
      simp only [e1] at ht
      simp only [e3] at hsy
      simp only [e2] at HMi
      clear HFI HS e2 e3 h45
      go_wp2_with (first
        | (go_at_call 31; (with_reducible refine (ht _).mono ?_); rintro e wx ⟨rfl, hwx⟩; subst wx)
        | (go_at_call 26; (with_reducible refine hsy.mono ?_); rintro e wx ⟨rfl, nq, rfl⟩; have HWa := Lib.hid (HW.out.drewN nq); have hmi := HMi.out _ _ _ HWa.out; have k0 := HWa.out.fo.cells.1)
        | (go_at_call 40; (with_reducible refine hmi.mono ?_); rintro e wx ⟨rfl, nr, rfl⟩; have hWb := HWa.out.drewN nr; rw [fdrew_two] at hWb; have k1 := hWb.fo.cells.1; have HWb := Lib.hid hWb; clear k0 hmi hWb)
        | (go_at_call 43; refine (HP.out _ _ _ HWb.out).mono ?_; rintro e w7 ⟨rfl, hb7⟩; have HWe := Lib.hid (HWb.out.below hb7); clear hb7)
        | (refine wpList_store_at rfl 63 (.tmp 4) (.tmp 49) rfl w.heap.size 0 (wordC W) rfl rfl 63 zeroW HWe.out.box sync_size (Nat.le_refl 6) (wordC_one _) ?_))
      have HE := Fw.put (C := zeroW) HWe.out (wordC W) rfl
      refine bodyPost_ret (results_row_tmp rfl _ _ w.heap.size 63 (wordC W) _ _ rfl HE.1 Tryz.underlying63 rfl sync_size rfl) rfl ?_
      exact ⟨rfl, HE.2⟩
end Go.Proofs.YtgmeakcfiaopcaaGreat

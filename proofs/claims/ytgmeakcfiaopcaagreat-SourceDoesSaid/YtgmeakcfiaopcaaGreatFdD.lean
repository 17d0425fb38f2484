/- The document's node that floods: Beat. -/
import Derived.Test.YtgmeakcfiaopcaaGreatFdB
import Derived.Test.YtgmeakcfiaopcaaGreatFdC
import Derived.Test.YtgmeakcfiaopcaaGreatFlF
import Derived.BigRegion
import Derived.Deep.CutRange
import Derived.Deep.CutBlock
namespace Go.Proofs.YtgmeakcfiaopcaaGreat
open Go.RowKit
set_option linter.unusedVariables false
set_option linter.unusedSimpArgs false

/-- A word among all frames; of kind 0: none. -/
def plainC (k : Int) (W : W6) : List Value := [.int .i64 k, .int .i64 W.1, .int .i64 0, .int .i64 W.2.1, .int .u16 W.2.2.1, .int .u16 W.2.2.2.1, .int .i64 W.2.2.2.2.1, .int .i64 W.2.2.2.2.2, .int .i64 0, .int .i64 0, .int .i64 0, .int .i64 0, .int .i64 0, .int .i64 0]
def kindV (ok : Bool) : Int := if ok = true then 1 else 0
theorem plainC_one (k : Int) (W : W6) : ∀ v ∈ plainC k W, v.oneCell' = true := by
  intro v hv
  have h : (plainC k W).all (fun v => v.oneCell') = true := rfl
  exact List.all_eq_true.1 h v hv
theorem plain_size2 : (Tryz.prog.info? 57).map (·.size) = some 14 := by kernel_rfl
def zero14 : List Value := [.int .i64 0, .int .i64 0, .int .i64 0, .int .i64 0, .int .u16 0, .int .u16 0, .int .i64 0, .int .i64 0, .int .i64 0, .int .i64 0, .int .i64 0, .int .i64 0, .int .i64 0, .int .i64 0]
def RowOld (w0 : World) (A : Option Addr) (n : Nat) : Prop := 0 < n → ∀ b off, A = some ⟨b, off, none⟩ → b < w0.heap.size
theorem TRow.chg' {w w' : World} {B : Nat} {A : Option Addr} {n c : Nat} {L : List Ent} {S : Nat → Prop} (h : TRow w B A n c L) (hc : Chg S w w') (hS : 0 < n → ∀ b off, A = some ⟨b, off, none⟩ → ¬ S b) : TRow w' B A n c L :=
  ⟨h.len, h.cap_le, h.max, h.nil, fun hn => by
    obtain ⟨b, off, e, hB, hb, hh⟩ := h.cell hn
    exact ⟨b, off, e, hB, Nat.lt_of_lt_of_le hb hc.size, fun j v hv => (hc.cell hb (hS hn b off e)).trans (hh j v hv)⟩⟩
theorem TRow.old {w : World} {B : Nat} {A : Option Addr} {n c : Nat} {L : List Ent} (h : TRow w B A n c L) : RowOld w A n := fun hn b off e => by
  obtain ⟨b', off', e', hB, hb, hh⟩ := h.cell hn
  rw [e] at e'
  cases e'
  exact hb
section
variable {w0 W W' : World} {gd ge : Nat} {A : Option Addr} {c : Nat} {f : FS} {T : TypeId}
theorem Dw.node {C : Array Value} {s' : St} (h : Dw w0 gd ge T C f A c W) (hd : Dn W' ge s') (hg : W.grownBy W' (some ge)) : Dw w0 gd ge T C (f.at s') A c W' := by
  obtain ⟨h1, h2⟩ := h.df.node_goes hd hg
  obtain ⟨o1, o2⟩ := h.old
  exact ⟨h1, h.chg.trans h2 (fun _ _ h => h), h.old, h.box.chg h2 (fun hk => by rcases hk with e | e <;> omega)⟩
/-- The call's own variable is written whole. -/
theorem Dw.put {C : List Value} (h : Dw w0 gd ge T C.toArray f A c W) (ho : RowOld w0 A f.L.length) (D : List Value) (hl : D.length = C.length) : Holds (W.setRow w0.heap.size (splice C 0 D).toArray) w0.heap.size T D.toArray ∧ DGoes gd ge f w0 (W.setRow w0.heap.size (splice C 0 D).toArray) := by
  rw [splice_all C D hl]
  obtain ⟨o1, o2⟩ := h.old
  have hc : Chg (fun k => k = w0.heap.size) W (W.setRow w0.heap.size D.toArray) := Chg.of_grown (grown_row W w0.heap.size _) (fun k e => by cases e; rfl)
  exact ⟨h.box.row _, A, c, ⟨h.df.lt, h.df.holds.chg hc (fun e => by omega), h.df.row.chg' hc (fun hn b off e k => by have := ho hn b off e; omega), h.df.node.chg hc (fun e => by omega)⟩, h.chg.trans hc (fun k hk e => by omega)⟩
end
theorem row14 {W : World} {g : Nat} {t : TypeId} {C D : List Value} (h : Holds W g t C.toArray) (hl : D.length = C.length) : Holds (W.setRow g (splice C 0 D).toArray) g t D.toArray := by
  rw [splice_all C D hl]
  exact h.row _
set_option maxHeartbeats 16000000 in
set_option maxRecDepth 100000 in
theorem rfbeat_any (w : World) (gd ge : Nat) (A : Option Addr) (c : Nat) (f0 : FS) (h : Df w gd ge A c f0) (hI : FInv f0) (lo : Int) (W : W6) (ok : Bool) (f' : FS) (hs : Says (beatF f0) lo W ok f') :
    Calls Tryz.prog 18 #[.pointer (some ⟨gd, 0, none⟩), .int .i64 lo] w fun e w' => e = .returned (.agg (plainC (kindV ok) W).toArray) ∧ DGoes gd ge f' w w' := by
  have HV := Lib.hid (Dw.start h 57 #[.int .i64 0, .int .i64 0, .int .i64 0, .int .i64 0, .int .u16 0, .int .u16 0, .int .i64 0, .int .i64 0, .int .i64 0, .int .i64 0, .int .i64 0, .int .i64 0, .int .i64 0, .int .i64 0])
  have HO0 := Lib.hid h.row.old
  have g0 := HV.out.df.cells.1
  obtain ⟨D, hD⟩ : ∃ D, beatB f0.s = D := ⟨_, rfl⟩
  obtain ⟨S, hS⟩ : ∃ S, beatS f0.s = S := ⟨_, rfl⟩
  have hbt := rbeat_at HV.out.df.node hI.s hD hS
  have HFg := Lib.hid (fun V A' c' f' (hw : Dw w gd ge 57 #[.int .i64 0, .int .i64 0, .int .i64 0, .int .i64 0, .int .u16 0, .int .u16 0, .int .i64 0, .int .i64 0, .int .i64 0, .int .i64 0, .int .i64 0, .int .i64 0, .int .i64 0, .int .i64 0] f' A' c' V) => rforget_any V gd ge A' c' f' hw.df)
  obtain ⟨f, hf⟩ : ∃ f, beatF f0 = f := ⟨_, rfl⟩
  have hFI : FInv f := by rw [← hf]; exact hI.beat
  have hFF : f = if D = true then (f0.at S).clear else f0.at S := by rw [← hf, ← hD, ← hS]; rfl
  rw [hf] at hs
  have HFF := Lib.hid hFF
  have HFI := Lib.hid hFI
  have ht := fun V => rtime2_any lo V
  have HSy := Lib.hid (fun V A' c' (hw : Dw w gd ge 57 #[.int .i64 0, .int .i64 0, .int .i64 0, .int .i64 0, .int .u16 0, .int .u16 0, .int .i64 0, .int .i64 0, .int .i64 0, .int .i64 0, .int .i64 0, .int .i64 0, .int .i64 0, .int .i64 0] f A' c' V) => rsynced_any V gd ge A' c' f hw.df)
  have HMi := Lib.hid (fun V A' c' (hw : Dw w gd ge 57 #[.int .i64 0, .int .i64 0, .int .i64 0, .int .i64 0, .int .u16 0, .int .u16 0, .int .i64 0, .int .i64 0, .int .i64 0, .int .i64 0, .int .i64 0, .int .i64 0, .int .i64 0, .int .i64 0] f A' c' V) => rmine2_any V gd ge A' c' f hw.df)
  have HS := Lib.hid (says_ways hs)
  clear h hI hD hS hf hFI hFF hs
  cases D
  case' false =>
    go_enter Tryz.func18, Tryz.ntmps18
    go_upto_region 3 with (go_at_call 44; refine hbt.mono ?_; rintro e w4 ⟨rfl, hd4, hg4⟩; have hW5 := HV.out.node hd4 hg4; rw [show f0.at S = f from HFF.out.symm] at hW5; have HW := Lib.hid hW5; have HO : Hid (RowOld w A f.L.length) := Lib.hid (by rw [show f = f0.at S from HFF.out]; exact HO0.out); clear hd4 hg4 hW5 hbt)
    obtain ⟨Az, hAz⟩ : ∃ Az, Az = A := ⟨_, rfl⟩
    subst hAz
    obtain ⟨cz, hcz⟩ : ∃ cz, cz = c := ⟨_, rfl⟩
    subst hcz
  case' true =>
    go_enter Tryz.func18, Tryz.ntmps18
    go_upto_region 3 with (first
      | (go_at_call 44; refine hbt.mono ?_; rintro e w3 ⟨rfl, hd3, hg3⟩; have hW3 := HV.out.node hd3 hg3; have hfg := HFg.out _ _ _ _ hW3; have HW3 := Lib.hid hW3; clear hd3 hg3 hW3 hbt)
      | (go_at_call 37; refine hfg.mono ?_; rintro e w4 ⟨rfl, hg4⟩; obtain ⟨Az, cz, hW5⟩ := HW3.out.goes hg4; rw [show (f0.at S).clear = f from HFF.out.symm] at hW5; have HW := Lib.hid hW5; have HO : Hid (RowOld w Az f.L.length) := Lib.hid (by rw [show f = (f0.at S).clear from HFF.out]; exact fun k => absurd k (Nat.lt_irrefl 0)); clear hg4 hW5 hfg))
  all_goals
    have hmi := HMi.out _ _ _ HW.out
    clear HV g0 HFg HFF HO0
    rcases HS.out with ⟨e1, rfl, rfl, hf'⟩ | ⟨e1, e2, rfl, rfl, hf'⟩ | ⟨e1, e2, e3, rfl, rfl, hf'⟩ | ⟨e1, e2, e3, hf', h45⟩
    · have hf2 := hf'.symm
      subst hf2
      simp only [e1] at ht
      clear hmi HMi HSy HFI HS
      go_wp2_with (first
        | (go_at_call 35; (with_reducible refine (ht _).mono ?_); rintro e wx ⟨rfl, hwx⟩; subst wx)
        | (refine wpList_store_at rfl 57 (.tmp 4) (.tmp 19) rfl w.heap.size 0 (plainC 0 noW) rfl rfl 57 zero14 HW.out.box plain_size2 (Nat.le_refl 14) (plainC_one _ _) ?_))
      have HE := Dw.put (C := zero14) HW.out HO.out (plainC 0 noW) rfl
      refine bodyPost_ret (results_cell_row rfl _ _ w.heap.size 57 _ (0, 0) _ rfl HE.1 Tryz.underlying57 rfl plain_size2) rfl ?_
      exact ⟨rfl, HE.2⟩
    · subst hf'
      have e3 := min_syn e2
      simp only [e1] at ht
      simp only [e2] at hmi
      have hroot : f.s.root = f.s.me := of_decide_eq_true e2
      have hIs : issueS f.s = { f.s with seq := nextV f.s.seq } := if_pos hroot
      have hnx := fun V => rnext_any f.s.seq V HFI.out.s.seq
      obtain ⟨Q0, hQ0⟩ : ∃ Q0, nextV f.s.seq = Q0 := ⟨_, rfl⟩
      simp only [hQ0] at hnx
      have HPut := Lib.hid (fun V (hw : Dw w gd ge 57 #[.int .i64 0, .int .i64 0, .int .i64 0, .int .i64 0, .int .u16 0, .int .u16 0, .int .i64 0, .int .i64 0, .int .i64 0, .int .i64 0, .int .i64 0, .int .i64 0, .int .i64 0, .int .i64 0] f Az cz V) => (hw.df.node.put 4 (by decide) (.int .u16 Q0) (s' := issueS f.s) (by rw [hIs]) (by rw [hIs, hQ0]; rfl)))
      have HCe : Hid (∀ V A' c', Df V gd ge A' c' (f.at (issueS f.s)) → V.cell? ⟨gd, 0, none⟩ = some (.pointer (some ⟨ge, 0, none⟩)) ∧ V.cell? ⟨ge, 0, none⟩ = some (.int .i64 f.s.me) ∧ V.cell? ⟨ge, 3, none⟩ = some (.int .u16 f.s.boot) ∧ V.cell? ⟨ge, 4, none⟩ = some (.int .u16 Q0)) := Lib.hid (fun V A' c' hw => by
        have k := hw.node.cells
        have e : (f.at (issueS f.s)).s = { f.s with seq := nextV f.s.seq } := hIs
        rw [e] at k
        exact ⟨hw.cells.1, k.1, k.2.2.2.1, by rw [← hQ0]; exact k.2.2.2.2.1⟩)
      have HO' : Hid (RowOld w Az (f.at (issueS f.s)).L.length) := HO
      have HRt := Lib.hid hroot
      have HQ := Lib.hid hQ0
      clear HSy HMi HFI HS e3 hIs hroot hQ0
      go_upto_region 6 with (first
        | (go_at_call 35; (with_reducible refine (ht _).mono ?_); rintro e wx ⟨rfl, hwx⟩; subst wx)
        | (go_at_call 45; (with_reducible refine hmi.mono ?_); rintro e wx ⟨rfl, nr, rfl⟩; have HWv := Lib.hid (HW.out.drewN nr); have HWd := Lib.hid (HW.out.drewN nr).drew; clear hmi))
      have n0 := HWd.out.df.cells.1
      have n4 := HWd.out.df.node.cells.2.2.2.2.1
      have s4 := HWd.out.df.node.soft 4
      have hWe0 := HWv.out.node (HPut.out _ HWv.out) (grown_set _ ge 4 _)
      have HWe := Lib.hid hWe0.drew
      clear hWe0
      generalize w4.drewN nr = V at *
      go_cut [33] from 22 to 35 (fun _ wx => wx = (V.setCell ⟨ge, 4, none⟩ (.int .u16 Q0)).drew)
      case first =>
        go_region_with (go_at_call 46; (with_reducible refine (hnx _).mono ?_); rintro e wx ⟨rfl, hwx⟩; subst wx)
        all_goals
          go_wp2
          go_meet
          case rel => exact rfl
      case rest =>
        subst hcut
        go_upto_region 7 with fail
        have HWf := Lib.hid HWe.out.drew
        have hcf := HCe.out _ _ _ HWf.out.df
        refine region_turns (fun (w' : World) => w'.cell? ⟨gd, 0, none⟩ = some (.pointer (some ⟨ge, 0, none⟩)) ∧ w'.cell? ⟨ge, 0, none⟩ = some (.int .i64 f.s.me) ∧ w'.cell? ⟨ge, 3, none⟩ = some (.int .u16 f.s.boot) ∧ w'.cell? ⟨ge, 4, none⟩ = some (.int .u16 Q0)) (fun j => decide (31 ≤ j)) (by kernel_rfl) (hcf) (fun hS => ?_)
        refine Turns.take hS 0 _ rfl (by kernel_rfl) (by kernel_rfl) (by kernel_rfl) (by kernel_rfl) (fun _ _ _ h => h) (by rfl) (fun w' hS' => by (try dsimp only at hS'); go_split_ands; go_simp; (try with_reducible rfl)) ?_
        simp only [Act.put, List.getElem_toArray, List.getElem_cons_succ, List.getElem_cons_zero, List.setIfInBounds_toArray, List.set_cons_zero, List.set_cons_succ]
        refine Turns.take hS 1 _ rfl (by kernel_rfl) (by kernel_rfl) (by kernel_rfl) (by kernel_rfl) (fun _ _ _ h => h) (by rfl) (fun w' hS' => by (try dsimp only at hS'); go_split_ands; go_simp; (try with_reducible rfl)) ?_
        simp only [Act.put, List.getElem_toArray, List.getElem_cons_succ, List.getElem_cons_zero, List.setIfInBounds_toArray, List.set_cons_zero, List.set_cons_succ]
        refine Turns.take hS 2 _ rfl (by kernel_rfl) (by kernel_rfl) (by kernel_rfl) (by kernel_rfl) (fun _ _ _ h => h) (by rfl) (fun w' hS' => by (try dsimp only at hS'); go_split_ands; go_simp; (try with_reducible rfl)) ?_
        simp only [Act.put, List.getElem_toArray, List.getElem_cons_succ, List.getElem_cons_zero, List.setIfInBounds_toArray, List.set_cons_zero, List.set_cons_succ]
        refine Turns.take hS 3 _ rfl (by kernel_rfl) (by kernel_rfl) (by kernel_rfl) (by kernel_rfl) (fun _ _ _ h => h) (by rfl) (fun w' hS' => by (try dsimp only at hS'); go_split_ands; go_simp; (try with_reducible rfl)) ?_
        simp only [Act.put, List.getElem_toArray, List.getElem_cons_succ, List.getElem_cons_zero, List.setIfInBounds_toArray, List.set_cons_zero, List.set_cons_succ]
        refine Turns.take hS 4 _ rfl (by kernel_rfl) (by kernel_rfl) (by kernel_rfl) (by kernel_rfl) (fun _ _ _ h => h) (by rfl) (fun w' hS' => by (try dsimp only at hS'); go_split_ands; go_simp; (try with_reducible rfl)) ?_
        simp only [Act.put, List.getElem_toArray, List.getElem_cons_succ, List.getElem_cons_zero, List.setIfInBounds_toArray, List.set_cons_zero, List.set_cons_succ]
        refine Turns.take hS 5 _ rfl (by kernel_rfl) (by kernel_rfl) (by kernel_rfl) (by kernel_rfl) (fun _ _ _ h => h) (by rfl) (fun w' hS' => by (try dsimp only at hS'); go_split_ands; go_simp; (try with_reducible rfl)) ?_
        simp only [Act.put, List.getElem_toArray, List.getElem_cons_succ, List.getElem_cons_zero, List.setIfInBounds_toArray, List.set_cons_zero, List.set_cons_succ]
        refine Turns.take hS 6 _ rfl (by kernel_rfl) (by kernel_rfl) (by kernel_rfl) (by kernel_rfl) (fun _ _ _ h => h) (by rfl) (fun w' hS' => by (try dsimp only at hS'); go_split_ands; go_simp; (try with_reducible rfl)) ?_
        simp only [Act.put, List.getElem_toArray, List.getElem_cons_succ, List.getElem_cons_zero, List.setIfInBounds_toArray, List.set_cons_zero, List.set_cons_succ]
        refine Turns.take hS 7 _ rfl (by kernel_rfl) (by kernel_rfl) (by kernel_rfl) (by kernel_rfl) (fun _ _ _ h => h) (by rfl) (fun w' hS' => by (try dsimp only at hS'); go_split_ands; go_simp; (try with_reducible rfl)) ?_
        simp only [Act.put, List.getElem_toArray, List.getElem_cons_succ, List.getElem_cons_zero, List.setIfInBounds_toArray, List.set_cons_zero, List.set_cons_succ]
        refine Turns.take hS 8 _ rfl (by kernel_rfl) (by kernel_rfl) (by kernel_rfl) (by kernel_rfl) (fun _ _ _ h => h) (by rfl) (fun w' hS' => by (try dsimp only at hS'); go_split_ands; go_simp; (try with_reducible rfl)) ?_
        simp only [Act.put, List.getElem_toArray, List.getElem_cons_succ, List.getElem_cons_zero, List.setIfInBounds_toArray, List.set_cons_zero, List.set_cons_succ]
        refine Turns.take hS 9 _ rfl (by kernel_rfl) (by kernel_rfl) (by kernel_rfl) (by kernel_rfl) (fun _ _ _ h => h) (by rfl) (fun w' hS' => by (try dsimp only at hS'); go_split_ands; go_simp; (try with_reducible rfl)) ?_
        simp only [Act.put, List.getElem_toArray, List.getElem_cons_succ, List.getElem_cons_zero, List.setIfInBounds_toArray, List.set_cons_zero, List.set_cons_succ]
        refine Turns.take hS 10 _ rfl (by kernel_rfl) (by kernel_rfl) (by kernel_rfl) (by kernel_rfl) (fun _ _ _ h => h) (by rfl) (fun w' hS' => by (try dsimp only at hS'); go_split_ands; go_simp; (try with_reducible rfl)) ?_
        simp only [Act.put, List.getElem_toArray, List.getElem_cons_succ, List.getElem_cons_zero, List.setIfInBounds_toArray, List.set_cons_zero, List.set_cons_succ]
        refine Turns.take hS 11 _ rfl (by kernel_rfl) (by kernel_rfl) (by kernel_rfl) (by kernel_rfl) (fun _ _ _ h => h) (by rfl) (fun w' hS' => by (try dsimp only at hS'); go_split_ands; go_simp; (try with_reducible rfl)) ?_
        simp only [Act.put, List.getElem_toArray, List.getElem_cons_succ, List.getElem_cons_zero, List.setIfInBounds_toArray, List.set_cons_zero, List.set_cons_succ]
        refine Turns.take hS 12 _ rfl (by kernel_rfl) (by kernel_rfl) (by kernel_rfl) (by kernel_rfl) (fun _ _ _ h => h) (by rfl) (fun w' hS' => by (try dsimp only at hS'); go_split_ands; go_simp; (try with_reducible rfl)) ?_
        simp only [Act.put, List.getElem_toArray, List.getElem_cons_succ, List.getElem_cons_zero, List.setIfInBounds_toArray, List.set_cons_zero, List.set_cons_succ]
        refine Turns.take hS 13 _ rfl (by kernel_rfl) (by kernel_rfl) (by kernel_rfl) (by kernel_rfl) (fun _ _ _ h => h) (by rfl) (fun w' hS' => by (try dsimp only at hS'); go_split_ands; go_simp; (try with_reducible rfl)) ?_
        simp only [Act.put, List.getElem_toArray, List.getElem_cons_succ, List.getElem_cons_zero, List.setIfInBounds_toArray, List.set_cons_zero, List.set_cons_succ]
        refine Turns.take hS 14 _ rfl (by kernel_rfl) (by kernel_rfl) (by kernel_rfl) (by kernel_rfl) (fun _ _ _ h => h) (by rfl) (fun w' hS' => by (try dsimp only at hS'); go_split_ands; go_simp; (try with_reducible rfl)) ?_
        simp only [Act.put, List.getElem_toArray, List.getElem_cons_succ, List.getElem_cons_zero, List.setIfInBounds_toArray, List.set_cons_zero, List.set_cons_succ]
        refine Turns.take hS 15 _ rfl (by kernel_rfl) (by kernel_rfl) (by kernel_rfl) (by kernel_rfl) (fun _ _ _ h => h) (by rfl) (fun w' hS' => by (try dsimp only at hS'); go_split_ands; go_simp; (try with_reducible rfl)) ?_
        simp only [Act.put, List.getElem_toArray, List.getElem_cons_succ, List.getElem_cons_zero, List.setIfInBounds_toArray, List.set_cons_zero, List.set_cons_succ]
        refine Turns.take hS 16 _ rfl (by kernel_rfl) (by kernel_rfl) (by kernel_rfl) (by kernel_rfl) (fun _ _ _ h => h) (by rfl) (fun w' hS' => by (try dsimp only at hS'); go_split_ands; go_simp; (try with_reducible rfl)) ?_
        simp only [Act.put, List.getElem_toArray, List.getElem_cons_succ, List.getElem_cons_zero, List.setIfInBounds_toArray, List.set_cons_zero, List.set_cons_succ]
        refine Turns.take hS 17 _ rfl (by kernel_rfl) (by kernel_rfl) (by kernel_rfl) (by kernel_rfl) (fun _ _ _ h => h) (by rfl) (fun w' hS' => by (try dsimp only at hS'); go_split_ands; go_simp; (try with_reducible rfl)) ?_
        simp only [Act.put, List.getElem_toArray, List.getElem_cons_succ, List.getElem_cons_zero, List.setIfInBounds_toArray, List.set_cons_zero, List.set_cons_succ]
        refine Turns.take hS 18 _ rfl (by kernel_rfl) (by kernel_rfl) (by kernel_rfl) (by kernel_rfl) (fun _ _ _ h => h) (by rfl) (fun w' hS' => by (try dsimp only at hS'); go_split_ands; go_simp; (try with_reducible rfl)) ?_
        simp only [Act.put, List.getElem_toArray, List.getElem_cons_succ, List.getElem_cons_zero, List.setIfInBounds_toArray, List.set_cons_zero, List.set_cons_succ]
        refine Turns.take hS 19 _ rfl (by kernel_rfl) (by kernel_rfl) (by kernel_rfl) (by kernel_rfl) (fun _ _ _ h => h) (by rfl) (fun w' hS' => by (try dsimp only at hS'); go_split_ands; go_simp; (try with_reducible rfl)) ?_
        simp only [Act.put, List.getElem_toArray, List.getElem_cons_succ, List.getElem_cons_zero, List.setIfInBounds_toArray, List.set_cons_zero, List.set_cons_succ]
        refine Turns.take hS 20 _ rfl (by kernel_rfl) (by kernel_rfl) (by kernel_rfl) (by kernel_rfl) (fun _ _ _ h => h) (by rfl) (fun w' hS' => by (try dsimp only at hS'); go_split_ands; go_simp; (try with_reducible rfl)) ?_
        simp only [Act.put, List.getElem_toArray, List.getElem_cons_succ, List.getElem_cons_zero, List.setIfInBounds_toArray, List.set_cons_zero, List.set_cons_succ]
        refine Turns.take hS 21 _ rfl (by kernel_rfl) (by kernel_rfl) (by kernel_rfl) (by kernel_rfl) (fun _ _ _ h => h) (by rfl) (fun w' hS' => by (try dsimp only at hS'); go_split_ands; go_simp; (try with_reducible rfl)) ?_
        simp only [Act.put, List.getElem_toArray, List.getElem_cons_succ, List.getElem_cons_zero, List.setIfInBounds_toArray, List.set_cons_zero, List.set_cons_succ]
        refine Turns.take hS 22 _ rfl (by kernel_rfl) (by kernel_rfl) (by kernel_rfl) (by kernel_rfl) (fun _ _ _ h => h) (by rfl) (fun w' hS' => by (try dsimp only at hS'); go_split_ands; go_simp; (try with_reducible rfl)) ?_
        simp only [Act.put, List.getElem_toArray, List.getElem_cons_succ, List.getElem_cons_zero, List.setIfInBounds_toArray, List.set_cons_zero, List.set_cons_succ]
        refine Turns.take hS 23 _ rfl (by kernel_rfl) (by kernel_rfl) (by kernel_rfl) (by kernel_rfl) (fun _ _ _ h => h) (by rfl) (fun w' hS' => by (try dsimp only at hS'); go_split_ands; go_simp; (try with_reducible rfl)) ?_
        simp only [Act.put, List.getElem_toArray, List.getElem_cons_succ, List.getElem_cons_zero, List.setIfInBounds_toArray, List.set_cons_zero, List.set_cons_succ]
        refine Turns.take hS 24 _ rfl (by kernel_rfl) (by kernel_rfl) (by kernel_rfl) (by kernel_rfl) (fun _ _ _ h => h) (by rfl) (fun w' hS' => by (try dsimp only at hS'); go_split_ands; go_simp; (try with_reducible rfl)) ?_
        simp only [Act.put, List.getElem_toArray, List.getElem_cons_succ, List.getElem_cons_zero, List.setIfInBounds_toArray, List.set_cons_zero, List.set_cons_succ]
        refine Turns.take hS 25 _ rfl (by kernel_rfl) (by kernel_rfl) (by kernel_rfl) (by kernel_rfl) (fun _ _ _ h => h) (by rfl) (fun w' hS' => by (try dsimp only at hS'); go_split_ands; go_simp; (try with_reducible rfl)) ?_
        simp only [Act.put, List.getElem_toArray, List.getElem_cons_succ, List.getElem_cons_zero, List.setIfInBounds_toArray, List.set_cons_zero, List.set_cons_succ]
        refine Turns.take hS 26 _ rfl (by kernel_rfl) (by kernel_rfl) (by kernel_rfl) (by kernel_rfl) (fun _ _ _ h => h) (by rfl) (fun w' hS' => by (try dsimp only at hS'); go_split_ands; go_simp; (try with_reducible rfl)) ?_
        simp only [Act.put, List.getElem_toArray, List.getElem_cons_succ, List.getElem_cons_zero, List.setIfInBounds_toArray, List.set_cons_zero, List.set_cons_succ]
        refine Turns.take hS 27 _ rfl (by kernel_rfl) (by kernel_rfl) (by kernel_rfl) (by kernel_rfl) (fun _ _ _ h => h) (by rfl) (fun w' hS' => by (try dsimp only at hS'); go_split_ands; go_simp; (try with_reducible rfl)) ?_
        simp only [Act.put, List.getElem_toArray, List.getElem_cons_succ, List.getElem_cons_zero, List.setIfInBounds_toArray, List.set_cons_zero, List.set_cons_succ]
        refine Turns.take hS 28 _ rfl (by kernel_rfl) (by kernel_rfl) (by kernel_rfl) (by kernel_rfl) (fun _ _ _ h => h) (by rfl) (fun w' hS' => by (try dsimp only at hS'); go_split_ands; go_simp; (try with_reducible rfl)) ?_
        simp only [Act.put, List.getElem_toArray, List.getElem_cons_succ, List.getElem_cons_zero, List.setIfInBounds_toArray, List.set_cons_zero, List.set_cons_succ]
        refine Turns.take hS 29 _ rfl (by kernel_rfl) (by kernel_rfl) (by kernel_rfl) (by kernel_rfl) (fun _ _ _ h => h) (by rfl) (fun w' hS' => by (try dsimp only at hS'); go_split_ands; go_simp; (try with_reducible rfl)) ?_
        simp only [Act.put, List.getElem_toArray, List.getElem_cons_succ, List.getElem_cons_zero, List.setIfInBounds_toArray, List.set_cons_zero, List.set_cons_succ]
        refine Turns.next 30 rfl (by kernel_rfl) (by rfl) (fun K hK => ?_)
        simp only [List.getElem_toArray, List.getElem_cons_succ, List.getElem_cons_zero]
        refine wp_store_at 57 (.tmp 4) (.tmp 65) rfl w.heap.size 0 (plainC 1 (f.s.me, f.s.me, f.s.boot, Q0, 0, lo)) ?hs ?hx 57 zero14 HWf.out.box plain_size2 (Nat.le_refl 14) (plainC_one _ _) ?_
        case hs => first | rfl | simp [Act.eval, Act.put]
        case hx => first | rfl | simp [Act.eval, Act.put, plainC]
        have HE := Lib.hid (Dw.put (C := zero14) HWf.out HO'.out (plainC 1 (f.s.me, f.s.me, f.s.boot, Q0, 0, lo)) rfl)
        obtain ⟨A9, c9, hd9, hc9⟩ := HE.out.2
        have h9 := HCe.out _ _ _ hd9
        clear hd9 hc9
        refine hK.out _ _ (show (fun (w' : World) => w'.cell? ⟨gd, 0, none⟩ = some (.pointer (some ⟨ge, 0, none⟩)) ∧ w'.cell? ⟨ge, 0, none⟩ = some (.int .i64 f.s.me) ∧ w'.cell? ⟨ge, 3, none⟩ = some (.int .u16 f.s.boot) ∧ w'.cell? ⟨ge, 4, none⟩ = some (.int .u16 Q0)) _ from h9) ?_
        clear hK K hS
        have hS := (show (fun (w' : World) => w'.cell? ⟨gd, 0, none⟩ = some (.pointer (some ⟨ge, 0, none⟩)) ∧ w'.cell? ⟨ge, 0, none⟩ = some (.int .i64 f.s.me) ∧ w'.cell? ⟨ge, 3, none⟩ = some (.int .u16 f.s.boot) ∧ w'.cell? ⟨ge, 4, none⟩ = some (.int .u16 Q0)) _ from h9)
        refine Turns.rest (late_done (by kernel_rfl)) ?_
        refine any_tail 31 (by rfl) (by kernel_rfl) ?_
        simp only [List.drop_succ_cons, List.drop_zero]
        clear hS
        go_wp2
        refine bodyPost_ret (results_cell_row rfl _ _ w.heap.size 57 _ (0, 0) _ rfl HE.out.1 Tryz.underlying57 rfl plain_size2) rfl ?_
        refine ⟨?_, HE.out.2⟩
        rw [HRt.out, HQ.out]
        rfl
    · have hf2 := hf'.symm
      subst hf2
      simp only [e1] at ht
      simp only [e2] at hmi
      simp only [e3] at HSy
      clear HMi HFI HS e2 e3
      go_wp2_with (first
        | (go_at_call 35; (with_reducible refine (ht _).mono ?_); rintro e wx ⟨rfl, hwx⟩; subst wx)
        | (go_at_call 45; (with_reducible refine hmi.mono ?_); rintro e wx ⟨rfl, nr, rfl⟩; have HWa := Lib.hid (HW.out.drewN nr); have hsy := HSy.out _ _ _ HWa.out; clear hmi)
        | (go_at_call 47; (with_reducible refine hsy.mono ?_); rintro e wx ⟨rfl, nq, rfl⟩; have hWb := HWa.out.drewN nq; rw [fdrew_two] at hWb; have HWb := Lib.hid hWb; clear hsy hWb)
        | (refine wpList_store_at rfl 57 (.tmp 4) (.tmp 69) rfl w.heap.size 0 (plainC 0 noW) rfl rfl 57 zero14 HWb.out.box plain_size2 (Nat.le_refl 14) (plainC_one _ _) ?_))
      have HE := Dw.put (C := zero14) HWb.out HO.out (plainC 0 noW) rfl
      refine bodyPost_ret (results_cell_row rfl _ _ w.heap.size 57 _ (0, 0) _ rfl HE.1 Tryz.underlying57 rfl plain_size2) rfl ?_
      exact ⟨rfl, HE.2⟩
    · have hf2 := hf'.symm
      subst hf2
      obtain ⟨l0, l1⟩ := (timeB_iff lo).1 e1
      obtain ⟨pl0, pl1⟩ := HFI.out.pl
      obtain ⟨pg0, pg1⟩ := HFI.out.pg
      have hroot := HFI.out.s.root
      have hme := HFI.out.s.me
      have hk0 := HFI.out.know (syn_some HFI.out e2 e3)
      have hph := HFI.out.ph
      have u1 := IntWalk.i64_in (f.pg + lo) (by omega)
      obtain ⟨T, hT⟩ : ∃ T, f.pg + (lo - f.pl) = T := ⟨_, rfl⟩
      have u2 : IntKind.i64.wrap (f.pg + lo - f.pl) = T := by rw [IntWalk.i64_in _ (by omega)]; omega
      have hmarks := said16 HFI.out.s
      have hsi := HFI.out.s
      obtain ⟨m0, m1, hm⟩ : ∃ m0 m1, saidV f.s = (m0, m1) := ⟨_, _, rfl⟩
      obtain ⟨mc, hmc⟩ : ∃ mc, saidB f.s = mc := ⟨_, rfl⟩
      rw [hm] at hmarks
      have HMk := Lib.hid (fun V A' c' (hw : Dw w gd ge 57 #[.int .i64 0, .int .i64 0, .int .i64 0, .int .i64 0, .int .u16 0, .int .u16 0, .int .i64 0, .int .i64 0, .int .i64 0, .int .i64 0, .int .i64 0, .int .i64 0, .int .i64 0, .int .i64 0] f A' c' V) => rmark_at hw.df.node hsi hm hmc)
      have HGd := Lib.hid (fun V => rwgood_any V f.s.me f.s.root m0 m1 f.ph T ⟨by omega, by omega⟩ ⟨by omega, by omega⟩ hmarks.1 hmarks.2 ⟨by omega, by omega⟩ ⟨by omega, by omega⟩)
      simp only [hm, hT] at h45
      obtain ⟨q, hq⟩ : ∃ q, timeB T = q := ⟨_, rfl⟩
      rw [hq] at HGd h45
      simp only [e1] at ht
      simp only [e2] at hmi
      simp only [e3] at HSy
      clear HMi HFI HS e1 e2 e3 l0 l1 pl0 pl1 pg0 pg1 hroot hme hk0 hph hmarks hsi hm hmc hT hq
      rcases h45 with ⟨rfl, rfl, rfl⟩ | ⟨rfl, rfl, rfl⟩
      · skip
        go_upto_region 11 with (first
        | (go_at_call 35; (with_reducible refine (ht _).mono ?_); rintro e wx ⟨rfl, hwx⟩; subst wx)
        | (go_at_call 45; (with_reducible refine hmi.mono ?_); rintro e wx ⟨rfl, nr, rfl⟩; have HWa := Lib.hid (HW.out.drewN nr); have hsy := HSy.out _ _ _ HWa.out; clear hmi)
        | (go_at_call 47; (with_reducible refine hsy.mono ?_); rintro e wx ⟨rfl, nq, rfl⟩; have hWb := HWa.out.drewN nq; rw [fdrew_two] at hWb; have HWb := Lib.hid hWb; have b0 := HWb.out.df.cells.1; clear hsy hWb)
        | (go_at_call 48; refine (HMk.out _ _ _ HWb.out).mono ?_; rintro e w6 ⟨rfl, hb6⟩; have HWc := Lib.hid (HWb.out.below hb6); clear hb6 b0))
        have HDc := Lib.hid (fun V A' c' (hd : Df V gd ge A' c' f) => (⟨hd.cells.1, hd.node.cells.1, hd.node.cells.2.2.2.2.2.1, hd.cells.2.2.2.2.2.2, hd.cells.2.2.2.2.2.1, hd.cells.2.2.2.2.1⟩ : V.cell? ⟨gd, 0, none⟩ = some (.pointer (some ⟨ge, 0, none⟩)) ∧ V.cell? ⟨ge, 0, none⟩ = some (.int .i64 f.s.me) ∧ V.cell? ⟨ge, 5, none⟩ = some (.int .i64 f.s.root) ∧ V.cell? ⟨gd, 6, none⟩ = some (.int .i64 f.ph) ∧ V.cell? ⟨gd, 5, none⟩ = some (.int .i64 f.pg) ∧ V.cell? ⟨gd, 4, none⟩ = some (.int .i64 f.pl)))
        have HWd := Lib.hid HWc.out.drew
        have HWe := Lib.hid (HWc.out.alloc (.cells #[.int .i64 0, .int .i64 0, .int .i64 0, .int .i64 0, .int .u16 0, .int .u16 0, .int .i64 0, .int .i64 0, .int .i64 0, .int .i64 0, .int .i64 0, .int .i64 0, .int .i64 0, .int .i64 0] 57)).drew
        have HPn := Lib.hid (show Holds (w6.alloc (.cells #[.int .i64 0, .int .i64 0, .int .i64 0, .int .i64 0, .int .u16 0, .int .u16 0, .int .i64 0, .int .i64 0, .int .i64 0, .int .i64 0, .int .i64 0, .int .i64 0, .int .i64 0, .int .i64 0] 57)).drew w6.heap.size 57 #[.int .i64 0, .int .i64 0, .int .i64 0, .int .i64 0, .int .u16 0, .int .u16 0, .int .i64 0, .int .i64 0, .int .i64 0, .int .i64 0, .int .i64 0, .int .i64 0, .int .i64 0, .int .i64 0] from (Holds.new w6 57 #[.int .i64 0, .int .i64 0, .int .i64 0, .int .i64 0, .int .u16 0, .int .u16 0, .int .i64 0, .int .i64 0, .int .i64 0, .int .i64 0, .int .i64 0, .int .i64 0, .int .i64 0, .int .i64 0]).drewN 1)
        have hbX : Below w6.heap.size w6 ((w6.alloc (.cells #[.int .i64 0, .int .i64 0, .int .i64 0, .int .i64 0, .int .u16 0, .int .u16 0, .int .i64 0, .int .i64 0, .int .i64 0, .int .i64 0, .int .i64 0, .int .i64 0, .int .i64 0, .int .i64 0] 57)).drew.setRow w6.heap.size (splice zero14 0 (plainC 1 (f.s.me, f.s.root, m0, m1, f.ph, T))).toArray) := Below.chg (below_alloc w6 _).drew (Chg.of_grown (grown_row _ w6.heap.size _) (S := fun k => w6.heap.size ≤ k) (fun k e => by cases e; exact Nat.le_refl _)) (by simp) (fun k hk => hk)
        have HWf := Lib.hid (HWc.out.below hbX)
        have HPr : Hid (Holds ((w6.alloc (.cells #[.int .i64 0, .int .i64 0, .int .i64 0, .int .i64 0, .int .u16 0, .int .u16 0, .int .i64 0, .int .i64 0, .int .i64 0, .int .i64 0, .int .i64 0, .int .i64 0, .int .i64 0, .int .i64 0] 57)).drew.setRow w6.heap.size (splice zero14 0 (plainC 1 (f.s.me, f.s.root, m0, m1, f.ph, T))).toArray) w6.heap.size 57 #[.int .i64 1, .int .i64 f.s.me, .int .i64 0, .int .i64 f.s.root, .int .u16 m0, .int .u16 m1, .int .i64 f.ph, .int .i64 T, .int .i64 0, .int .i64 0, .int .i64 0, .int .i64 0, .int .i64 0, .int .i64 0]) := Lib.hid (row14 (C := zero14) HPn.out rfl)
        have hdc := HDc.out _ _ _ HWd.out.df
        have hde := HDc.out _ _ _ HWe.out.df
        have hdf := HDc.out _ _ _ HWf.out.df
        clear hbX
        refine region_turns (fun (w' : World) => w'.cell? ⟨gd, 0, none⟩ = some (.pointer (some ⟨ge, 0, none⟩)) ∧ w'.cell? ⟨ge, 0, none⟩ = some (.int .i64 f.s.me) ∧ w'.cell? ⟨ge, 5, none⟩ = some (.int .i64 f.s.root) ∧ w'.cell? ⟨gd, 6, none⟩ = some (.int .i64 f.ph) ∧ w'.cell? ⟨gd, 5, none⟩ = some (.int .i64 f.pg) ∧ w'.cell? ⟨gd, 4, none⟩ = some (.int .i64 f.pl)) (fun j => decide (34 ≤ j)) (by kernel_rfl) (hdc) (fun hS => ?_)
        refine Turns.take hS 0 _ rfl (by kernel_rfl) (by kernel_rfl) (by kernel_rfl) (by kernel_rfl) (fun _ _ _ h => h) (by rfl) (fun w' hS' => by (try dsimp only at hS'); go_split_ands; go_simp; (try with_reducible rfl)) ?_
        simp only [Act.put, List.getElem_toArray, List.getElem_cons_succ, List.getElem_cons_zero, List.setIfInBounds_toArray, List.set_cons_zero, List.set_cons_succ]
        refine Turns.take hS 1 _ rfl (by kernel_rfl) (by kernel_rfl) (by kernel_rfl) (by kernel_rfl) (fun _ _ _ h => h) (by rfl) (fun w' hS' => by (try dsimp only at hS'); go_split_ands; go_simp; (try with_reducible rfl)) ?_
        simp only [Act.put, List.getElem_toArray, List.getElem_cons_succ, List.getElem_cons_zero, List.setIfInBounds_toArray, List.set_cons_zero, List.set_cons_succ]
        refine Turns.take hS 2 _ rfl (by kernel_rfl) (by kernel_rfl) (by kernel_rfl) (by kernel_rfl) (fun _ _ _ h => h) (by rfl) (fun w' hS' => by (try dsimp only at hS'); go_split_ands; go_simp; (try with_reducible rfl)) ?_
        simp only [Act.put, List.getElem_toArray, List.getElem_cons_succ, List.getElem_cons_zero, List.setIfInBounds_toArray, List.set_cons_zero, List.set_cons_succ]
        refine Turns.take hS 3 _ rfl (by kernel_rfl) (by kernel_rfl) (by kernel_rfl) (by kernel_rfl) (fun _ _ _ h => h) (by rfl) (fun w' hS' => by (try dsimp only at hS'); go_split_ands; go_simp; (try with_reducible rfl)) ?_
        simp only [Act.put, List.getElem_toArray, List.getElem_cons_succ, List.getElem_cons_zero, List.setIfInBounds_toArray, List.set_cons_zero, List.set_cons_succ]
        refine Turns.take hS 4 _ rfl (by kernel_rfl) (by kernel_rfl) (by kernel_rfl) (by kernel_rfl) (fun _ _ _ h => h) (by rfl) (fun w' hS' => by (try dsimp only at hS'); go_split_ands; go_simp; (try with_reducible rfl)) ?_
        simp only [Act.put, List.getElem_toArray, List.getElem_cons_succ, List.getElem_cons_zero, List.setIfInBounds_toArray, List.set_cons_zero, List.set_cons_succ]
        refine Turns.take hS 5 _ rfl (by kernel_rfl) (by kernel_rfl) (by kernel_rfl) (by kernel_rfl) (fun _ _ _ h => h) (by rfl) (fun w' hS' => by (try dsimp only at hS'); go_split_ands; go_simp; (try with_reducible rfl)) ?_
        simp only [Act.put, List.getElem_toArray, List.getElem_cons_succ, List.getElem_cons_zero, List.setIfInBounds_toArray, List.set_cons_zero, List.set_cons_succ]
        refine Turns.take hS 6 _ rfl (by kernel_rfl) (by kernel_rfl) (by kernel_rfl) (by kernel_rfl) (fun _ _ _ h => h) (by rfl) (fun w' hS' => by (try dsimp only at hS'); go_split_ands; go_simp; (try with_reducible rfl)) ?_
        simp only [Act.put, List.getElem_toArray, List.getElem_cons_succ, List.getElem_cons_zero, List.setIfInBounds_toArray, List.set_cons_zero, List.set_cons_succ]
        refine Turns.take hS 7 _ rfl (by kernel_rfl) (by kernel_rfl) (by kernel_rfl) (by kernel_rfl) (fun _ _ _ h => h) (by rfl) (fun w' hS' => by (try dsimp only at hS'); go_split_ands; go_simp; (try with_reducible rfl)) ?_
        simp only [Act.put, List.getElem_toArray, List.getElem_cons_succ, List.getElem_cons_zero, List.setIfInBounds_toArray, List.set_cons_zero, List.set_cons_succ]
        refine Turns.take hS 8 _ rfl (by kernel_rfl) (by kernel_rfl) (by kernel_rfl) (by kernel_rfl) (fun _ _ _ h => h) (by rfl) (fun w' hS' => by (try dsimp only at hS'); go_split_ands; go_simp; (try with_reducible rfl)) ?_
        simp only [Act.put, List.getElem_toArray, List.getElem_cons_succ, List.getElem_cons_zero, List.setIfInBounds_toArray, List.set_cons_zero, List.set_cons_succ]
        refine Turns.take hS 9 _ rfl (by kernel_rfl) (by kernel_rfl) (by kernel_rfl) (by kernel_rfl) (fun _ _ _ h => h) (by rfl) (fun w' hS' => by (try dsimp only at hS'); go_split_ands; go_simp; (try with_reducible rfl)) ?_
        simp only [Act.put, List.getElem_toArray, List.getElem_cons_succ, List.getElem_cons_zero, List.setIfInBounds_toArray, List.set_cons_zero, List.set_cons_succ]
        refine Turns.take hS 10 _ rfl (by kernel_rfl) (by kernel_rfl) (by kernel_rfl) (by kernel_rfl) (fun _ _ _ h => h) (by rfl) (fun w' hS' => by (try dsimp only at hS'); go_split_ands; go_simp; (try with_reducible rfl)) ?_
        simp only [Act.put, List.getElem_toArray, List.getElem_cons_succ, List.getElem_cons_zero, List.setIfInBounds_toArray, List.set_cons_zero, List.set_cons_succ]
        refine Turns.take hS 11 _ rfl (by kernel_rfl) (by kernel_rfl) (by kernel_rfl) (by kernel_rfl) (fun _ _ _ h => h) (by rfl) (fun w' hS' => by (try dsimp only at hS'); go_split_ands; go_simp; (try with_reducible rfl)) ?_
        simp only [Act.put, List.getElem_toArray, List.getElem_cons_succ, List.getElem_cons_zero, List.setIfInBounds_toArray, List.set_cons_zero, List.set_cons_succ]
        refine Turns.take hS 12 _ rfl (by kernel_rfl) (by kernel_rfl) (by kernel_rfl) (by kernel_rfl) (fun _ _ _ h => h) (by rfl) (fun w' hS' => by (try dsimp only at hS'); go_split_ands; go_simp; (try with_reducible rfl)) ?_
        simp only [Act.put, List.getElem_toArray, List.getElem_cons_succ, List.getElem_cons_zero, List.setIfInBounds_toArray, List.set_cons_zero, List.set_cons_succ]
        refine Turns.take hS 13 _ rfl (by kernel_rfl) (by kernel_rfl) (by kernel_rfl) (by kernel_rfl) (fun _ _ _ h => h) (by rfl) (fun w' hS' => by (try dsimp only at hS'); go_split_ands; go_simp; (try with_reducible rfl)) ?_
        simp only [Act.put, List.getElem_toArray, List.getElem_cons_succ, List.getElem_cons_zero, List.setIfInBounds_toArray, List.set_cons_zero, List.set_cons_succ]
        refine Turns.take hS 14 _ rfl (by kernel_rfl) (by kernel_rfl) (by kernel_rfl) (by kernel_rfl) (fun _ _ _ h => h) (by rfl) (fun w' hS' => by (try dsimp only at hS'); go_split_ands; go_simp; (try with_reducible rfl)) ?_
        simp only [Act.put, List.getElem_toArray, List.getElem_cons_succ, List.getElem_cons_zero, List.setIfInBounds_toArray, List.set_cons_zero, List.set_cons_succ]
        refine Turns.take hS 15 _ rfl (by kernel_rfl) (by kernel_rfl) (by kernel_rfl) (by kernel_rfl) (fun _ _ _ h => h) (by rfl) (fun w' hS' => by (try dsimp only at hS'); go_split_ands; go_simp; (try with_reducible rfl)) ?_
        simp only [Act.put, List.getElem_toArray, List.getElem_cons_succ, List.getElem_cons_zero, List.setIfInBounds_toArray, List.set_cons_zero, List.set_cons_succ]
        refine Turns.take hS 16 _ rfl (by kernel_rfl) (by kernel_rfl) (by kernel_rfl) (by kernel_rfl) (fun _ _ _ h => h) (by rfl) (fun w' hS' => by (try dsimp only at hS'); go_split_ands; go_simp; (try with_reducible rfl)) ?_
        simp only [Act.put, List.getElem_toArray, List.getElem_cons_succ, List.getElem_cons_zero, List.setIfInBounds_toArray, List.set_cons_zero, List.set_cons_succ]
        refine Turns.take hS 17 _ rfl (by kernel_rfl) (by kernel_rfl) (by kernel_rfl) (by kernel_rfl) (fun _ _ _ h => h) (by rfl) (fun w' hS' => by (try dsimp only at hS'); go_split_ands; go_simp; (try with_reducible rfl)) ?_
        simp only [Act.put, List.getElem_toArray, List.getElem_cons_succ, List.getElem_cons_zero, List.setIfInBounds_toArray, List.set_cons_zero, List.set_cons_succ]
        refine Turns.take hS 18 _ rfl (by kernel_rfl) (by kernel_rfl) (by kernel_rfl) (by kernel_rfl) (fun _ _ _ h => h) (by rfl) (fun w' hS' => by (try dsimp only at hS'); go_split_ands; go_simp; (try with_reducible rfl)) ?_
        simp only [Act.put, List.getElem_toArray, List.getElem_cons_succ, List.getElem_cons_zero, List.setIfInBounds_toArray, List.set_cons_zero, List.set_cons_succ]
        refine Turns.take hS 19 _ rfl (by kernel_rfl) (by kernel_rfl) (by kernel_rfl) (by kernel_rfl) (fun _ _ _ h => h) (by rfl) (fun w' hS' => by (try dsimp only at hS'); go_split_ands; go_simp; (try with_reducible rfl)) ?_
        simp only [Act.put, List.getElem_toArray, List.getElem_cons_succ, List.getElem_cons_zero, List.setIfInBounds_toArray, List.set_cons_zero, List.set_cons_succ]
        refine Turns.take hS 20 _ rfl (by kernel_rfl) (by kernel_rfl) (by kernel_rfl) (by kernel_rfl) (fun _ _ _ h => h) (by rfl) (fun w' hS' => by (try dsimp only at hS'); go_split_ands; go_simp; (try with_reducible rfl)) ?_
        simp only [Act.put, List.getElem_toArray, List.getElem_cons_succ, List.getElem_cons_zero, List.setIfInBounds_toArray, List.set_cons_zero, List.set_cons_succ]
        refine Turns.take hS 21 _ rfl (by kernel_rfl) (by kernel_rfl) (by kernel_rfl) (by kernel_rfl) (fun _ _ _ h => h) (by rfl) (fun w' hS' => by (try dsimp only at hS'); go_split_ands; go_simp; (try with_reducible rfl)) ?_
        simp only [Act.put, List.getElem_toArray, List.getElem_cons_succ, List.getElem_cons_zero, List.setIfInBounds_toArray, List.set_cons_zero, List.set_cons_succ]
        refine Turns.take hS 22 _ rfl (by kernel_rfl) (by kernel_rfl) (by kernel_rfl) (by kernel_rfl) (fun _ _ _ h => h) (by rfl) (fun w' hS' => by (try dsimp only at hS'); go_split_ands; go_simp; (try with_reducible rfl)) ?_
        simp only [Act.put, List.getElem_toArray, List.getElem_cons_succ, List.getElem_cons_zero, List.setIfInBounds_toArray, List.set_cons_zero, List.set_cons_succ]
        refine Turns.take hS 23 _ rfl (by kernel_rfl) (by kernel_rfl) (by kernel_rfl) (by kernel_rfl) (fun _ _ _ h => h) (by rfl) (fun w' hS' => by (try dsimp only at hS'); go_split_ands; go_simp; (try with_reducible rfl)) ?_
        simp only [Act.put, List.getElem_toArray, List.getElem_cons_succ, List.getElem_cons_zero, List.setIfInBounds_toArray, List.set_cons_zero, List.set_cons_succ]
        refine Turns.take hS 24 _ rfl (by kernel_rfl) (by kernel_rfl) (by kernel_rfl) (by kernel_rfl) (fun _ _ _ h => h) (by rfl) (fun w' hS' => by (try dsimp only at hS'); go_split_ands; go_simp; (try with_reducible rfl)) ?_
        simp only [Act.put, List.getElem_toArray, List.getElem_cons_succ, List.getElem_cons_zero, List.setIfInBounds_toArray, List.set_cons_zero, List.set_cons_succ]
        refine Turns.take hS 25 _ rfl (by kernel_rfl) (by kernel_rfl) (by kernel_rfl) (by kernel_rfl) (fun _ _ _ h => h) (by rfl) (fun w' hS' => by (try dsimp only at hS'); go_split_ands; go_simp; (try with_reducible rfl)) ?_
        simp only [Act.put, List.getElem_toArray, List.getElem_cons_succ, List.getElem_cons_zero, List.setIfInBounds_toArray, List.set_cons_zero, List.set_cons_succ]
        refine Turns.take hS 26 _ rfl (by kernel_rfl) (by kernel_rfl) (by kernel_rfl) (by kernel_rfl) (fun _ _ _ h => h) (by rfl) (fun w' hS' => by (try dsimp only at hS'); go_split_ands; go_simp; (try with_reducible rfl)) ?_
        simp only [Act.put, List.getElem_toArray, List.getElem_cons_succ, List.getElem_cons_zero, List.setIfInBounds_toArray, List.set_cons_zero, List.set_cons_succ]
        refine Turns.take hS 27 _ rfl (by kernel_rfl) (by kernel_rfl) (by kernel_rfl) (by kernel_rfl) (fun _ _ _ h => h) (by rfl) (fun w' hS' => by (try dsimp only at hS'); go_split_ands; go_simp; (try with_reducible rfl)) ?_
        simp only [Act.put, List.getElem_toArray, List.getElem_cons_succ, List.getElem_cons_zero, List.setIfInBounds_toArray, List.set_cons_zero, List.set_cons_succ]
        refine Turns.take hS 28 _ rfl (by kernel_rfl) (by kernel_rfl) (by kernel_rfl) (by kernel_rfl) (fun _ _ _ h => h) (by rfl) (fun w' hS' => by (try dsimp only at hS'); go_split_ands; go_simp; (try with_reducible rfl)) ?_
        simp only [Act.put, List.getElem_toArray, List.getElem_cons_succ, List.getElem_cons_zero, List.setIfInBounds_toArray, List.set_cons_zero, List.set_cons_succ]
        refine Turns.take hS 29 _ rfl (by kernel_rfl) (by kernel_rfl) (by kernel_rfl) (by kernel_rfl) (fun _ _ _ h => h) (by rfl) (fun w' hS' => by (try dsimp only at hS'); go_split_ands; go_simp; (try with_reducible rfl)) ?_
        simp only [Act.put, List.getElem_toArray, List.getElem_cons_succ, List.getElem_cons_zero, List.setIfInBounds_toArray, List.set_cons_zero, List.set_cons_succ]
        refine Turns.take hS 30 _ rfl (by kernel_rfl) (by kernel_rfl) (by kernel_rfl) (by kernel_rfl) (fun _ _ _ h => h) (by rfl) (fun w' hS' => by (try dsimp only at hS'); go_split_ands; go_simp; (try with_reducible rfl)) ?_
        simp only [Act.put, List.getElem_toArray, List.getElem_cons_succ, List.getElem_cons_zero, List.setIfInBounds_toArray, List.set_cons_zero, List.set_cons_succ]
        refine Turns.take hS 31 _ rfl (by kernel_rfl) (by kernel_rfl) (by kernel_rfl) (by kernel_rfl) (fun _ _ _ h => h) (by rfl) (fun w' hS' => by (try dsimp only at hS'); go_split_ands; go_simp; (try with_reducible rfl)) ?_
        simp only [Act.put, List.getElem_toArray, List.getElem_cons_succ, List.getElem_cons_zero, List.setIfInBounds_toArray, List.set_cons_zero, List.set_cons_succ]
        refine Turns.next 32 rfl (by kernel_rfl) (by rfl) (fun K hK => ?_)
        go_simp
        refine hK.out _ _ (show (fun (w' : World) => w'.cell? ⟨gd, 0, none⟩ = some (.pointer (some ⟨ge, 0, none⟩)) ∧ w'.cell? ⟨ge, 0, none⟩ = some (.int .i64 f.s.me) ∧ w'.cell? ⟨ge, 5, none⟩ = some (.int .i64 f.s.root) ∧ w'.cell? ⟨gd, 6, none⟩ = some (.int .i64 f.ph) ∧ w'.cell? ⟨gd, 5, none⟩ = some (.int .i64 f.pg) ∧ w'.cell? ⟨gd, 4, none⟩ = some (.int .i64 f.pl)) _ from hde) ?_
        clear hK K hS
        have hS := (show (fun (w' : World) => w'.cell? ⟨gd, 0, none⟩ = some (.pointer (some ⟨ge, 0, none⟩)) ∧ w'.cell? ⟨ge, 0, none⟩ = some (.int .i64 f.s.me) ∧ w'.cell? ⟨ge, 5, none⟩ = some (.int .i64 f.s.root) ∧ w'.cell? ⟨gd, 6, none⟩ = some (.int .i64 f.ph) ∧ w'.cell? ⟨gd, 5, none⟩ = some (.int .i64 f.pg) ∧ w'.cell? ⟨gd, 4, none⟩ = some (.int .i64 f.pl)) _ from hde)
        refine Turns.next 33 rfl (by kernel_rfl) (by rfl) (fun K hK => ?_)
        simp only [List.getElem_toArray, List.getElem_cons_succ, List.getElem_cons_zero]
        refine wp_store_at 57 (.tmp 8) (.tmp 110) rfl w6.heap.size 0 (plainC 1 (f.s.me, f.s.root, m0, m1, f.ph, T)) ?hs ?hx 57 zero14 HPn.out plain_size2 (Nat.le_refl 14) (plainC_one _ _) ?_
        case hs => first | rfl | simp [Act.eval, Act.put]
        case hx => first | rfl | simp [Act.eval, Act.put, plainC]
        refine hK.out _ _ (show (fun (w' : World) => w'.cell? ⟨gd, 0, none⟩ = some (.pointer (some ⟨ge, 0, none⟩)) ∧ w'.cell? ⟨ge, 0, none⟩ = some (.int .i64 f.s.me) ∧ w'.cell? ⟨ge, 5, none⟩ = some (.int .i64 f.s.root) ∧ w'.cell? ⟨gd, 6, none⟩ = some (.int .i64 f.ph) ∧ w'.cell? ⟨gd, 5, none⟩ = some (.int .i64 f.pg) ∧ w'.cell? ⟨gd, 4, none⟩ = some (.int .i64 f.pl)) _ from hdf) ?_
        clear hK K hS
        have hS := (show (fun (w' : World) => w'.cell? ⟨gd, 0, none⟩ = some (.pointer (some ⟨ge, 0, none⟩)) ∧ w'.cell? ⟨ge, 0, none⟩ = some (.int .i64 f.s.me) ∧ w'.cell? ⟨ge, 5, none⟩ = some (.int .i64 f.s.root) ∧ w'.cell? ⟨gd, 6, none⟩ = some (.int .i64 f.ph) ∧ w'.cell? ⟨gd, 5, none⟩ = some (.int .i64 f.pg) ∧ w'.cell? ⟨gd, 4, none⟩ = some (.int .i64 f.pl)) _ from hdf)
        refine Turns.rest (late_done (by kernel_rfl)) ?_
        refine any_tail 34 (by rfl) (by kernel_rfl) ?_
        simp only [List.drop_succ_cons, List.drop_zero]
        clear hS
        have z0 := HPr.out.cell 0
        have z1 := HPr.out.cell 1
        have z2 := HPr.out.cell 2
        have z3 := HPr.out.cell 3
        have z4 := HPr.out.cell 4
        have z5 := HPr.out.cell 5
        have z6 := HPr.out.cell 6
        have z7 := HPr.out.cell 7
        have z8 := HPr.out.cell 8
        have z9 := HPr.out.cell 9
        have z10 := HPr.out.cell 10
        have z11 := HPr.out.cell 11
        have z12 := HPr.out.cell 12
        have z13 := HPr.out.cell 13
        go_wp2_with (first
          | (go_at_call 49; (with_reducible refine (HGd.out _).mono ?_); rintro e w9 ⟨rfl, hb9⟩; have HWg := Lib.hid (HWf.out.below hb9); have HP9 := Lib.hid (HPr.out.below hb9 HPr.out.lt); clear z0 z1 z2 z3 z4 z5 z6 z7 z8 z9 z10 z11 z12 z13 hb9; have y0 := HP9.out.cell 0; have y1 := HP9.out.cell 1; have y2 := HP9.out.cell 2; have y3 := HP9.out.cell 3; have y4 := HP9.out.cell 4; have y5 := HP9.out.cell 5; have y6 := HP9.out.cell 6; have y7 := HP9.out.cell 7; have y8 := HP9.out.cell 8; have y9 := HP9.out.cell 9; have y10 := HP9.out.cell 10; have y11 := HP9.out.cell 11; have y12 := HP9.out.cell 12; have y13 := HP9.out.cell 13)
          | (refine wpList_store_at rfl 57 (.tmp 4) (.tmp 115) rfl w.heap.size 0 (plainC 1 (f.s.me, f.s.root, m0, m1, f.ph, T)) rfl rfl 57 zero14 HWg.out.box plain_size2 (Nat.le_refl 14) (plainC_one _ _) ?_))
        have HE := Dw.put (C := zero14) HWg.out HO.out (plainC 1 (f.s.me, f.s.root, m0, m1, f.ph, T)) rfl
        refine bodyPost_ret (results_cell_row rfl _ _ w.heap.size 57 _ (0, 0) _ rfl HE.1 Tryz.underlying57 rfl plain_size2) rfl ?_
        exact ⟨rfl, HE.2⟩
      · skip
        go_upto_region 11 with (first
        | (go_at_call 35; (with_reducible refine (ht _).mono ?_); rintro e wx ⟨rfl, hwx⟩; subst wx)
        | (go_at_call 45; (with_reducible refine hmi.mono ?_); rintro e wx ⟨rfl, nr, rfl⟩; have HWa := Lib.hid (HW.out.drewN nr); have hsy := HSy.out _ _ _ HWa.out; clear hmi)
        | (go_at_call 47; (with_reducible refine hsy.mono ?_); rintro e wx ⟨rfl, nq, rfl⟩; have hWb := HWa.out.drewN nq; rw [fdrew_two] at hWb; have HWb := Lib.hid hWb; have b0 := HWb.out.df.cells.1; clear hsy hWb)
        | (go_at_call 48; refine (HMk.out _ _ _ HWb.out).mono ?_; rintro e w6 ⟨rfl, hb6⟩; have HWc := Lib.hid (HWb.out.below hb6); clear hb6 b0))
        have HDc := Lib.hid (fun V A' c' (hd : Df V gd ge A' c' f) => (⟨hd.cells.1, hd.node.cells.1, hd.node.cells.2.2.2.2.2.1, hd.cells.2.2.2.2.2.2, hd.cells.2.2.2.2.2.1, hd.cells.2.2.2.2.1⟩ : V.cell? ⟨gd, 0, none⟩ = some (.pointer (some ⟨ge, 0, none⟩)) ∧ V.cell? ⟨ge, 0, none⟩ = some (.int .i64 f.s.me) ∧ V.cell? ⟨ge, 5, none⟩ = some (.int .i64 f.s.root) ∧ V.cell? ⟨gd, 6, none⟩ = some (.int .i64 f.ph) ∧ V.cell? ⟨gd, 5, none⟩ = some (.int .i64 f.pg) ∧ V.cell? ⟨gd, 4, none⟩ = some (.int .i64 f.pl)))
        have HWd := Lib.hid HWc.out.drew
        have HWe := Lib.hid (HWc.out.alloc (.cells #[.int .i64 0, .int .i64 0, .int .i64 0, .int .i64 0, .int .u16 0, .int .u16 0, .int .i64 0, .int .i64 0, .int .i64 0, .int .i64 0, .int .i64 0, .int .i64 0, .int .i64 0, .int .i64 0] 57)).drew
        have HPn := Lib.hid (show Holds (w6.alloc (.cells #[.int .i64 0, .int .i64 0, .int .i64 0, .int .i64 0, .int .u16 0, .int .u16 0, .int .i64 0, .int .i64 0, .int .i64 0, .int .i64 0, .int .i64 0, .int .i64 0, .int .i64 0, .int .i64 0] 57)).drew w6.heap.size 57 #[.int .i64 0, .int .i64 0, .int .i64 0, .int .i64 0, .int .u16 0, .int .u16 0, .int .i64 0, .int .i64 0, .int .i64 0, .int .i64 0, .int .i64 0, .int .i64 0, .int .i64 0, .int .i64 0] from (Holds.new w6 57 #[.int .i64 0, .int .i64 0, .int .i64 0, .int .i64 0, .int .u16 0, .int .u16 0, .int .i64 0, .int .i64 0, .int .i64 0, .int .i64 0, .int .i64 0, .int .i64 0, .int .i64 0, .int .i64 0]).drewN 1)
        have hbX : Below w6.heap.size w6 ((w6.alloc (.cells #[.int .i64 0, .int .i64 0, .int .i64 0, .int .i64 0, .int .u16 0, .int .u16 0, .int .i64 0, .int .i64 0, .int .i64 0, .int .i64 0, .int .i64 0, .int .i64 0, .int .i64 0, .int .i64 0] 57)).drew.setRow w6.heap.size (splice zero14 0 (plainC 1 (f.s.me, f.s.root, m0, m1, f.ph, T))).toArray) := Below.chg (below_alloc w6 _).drew (Chg.of_grown (grown_row _ w6.heap.size _) (S := fun k => w6.heap.size ≤ k) (fun k e => by cases e; exact Nat.le_refl _)) (by simp) (fun k hk => hk)
        have HWf := Lib.hid (HWc.out.below hbX)
        have HPr : Hid (Holds ((w6.alloc (.cells #[.int .i64 0, .int .i64 0, .int .i64 0, .int .i64 0, .int .u16 0, .int .u16 0, .int .i64 0, .int .i64 0, .int .i64 0, .int .i64 0, .int .i64 0, .int .i64 0, .int .i64 0, .int .i64 0] 57)).drew.setRow w6.heap.size (splice zero14 0 (plainC 1 (f.s.me, f.s.root, m0, m1, f.ph, T))).toArray) w6.heap.size 57 #[.int .i64 1, .int .i64 f.s.me, .int .i64 0, .int .i64 f.s.root, .int .u16 m0, .int .u16 m1, .int .i64 f.ph, .int .i64 T, .int .i64 0, .int .i64 0, .int .i64 0, .int .i64 0, .int .i64 0, .int .i64 0]) := Lib.hid (row14 (C := zero14) HPn.out rfl)
        have hdc := HDc.out _ _ _ HWd.out.df
        have hde := HDc.out _ _ _ HWe.out.df
        have hdf := HDc.out _ _ _ HWf.out.df
        clear hbX
        refine region_turns (fun (w' : World) => w'.cell? ⟨gd, 0, none⟩ = some (.pointer (some ⟨ge, 0, none⟩)) ∧ w'.cell? ⟨ge, 0, none⟩ = some (.int .i64 f.s.me) ∧ w'.cell? ⟨ge, 5, none⟩ = some (.int .i64 f.s.root) ∧ w'.cell? ⟨gd, 6, none⟩ = some (.int .i64 f.ph) ∧ w'.cell? ⟨gd, 5, none⟩ = some (.int .i64 f.pg) ∧ w'.cell? ⟨gd, 4, none⟩ = some (.int .i64 f.pl)) (fun j => decide (34 ≤ j)) (by kernel_rfl) (hdc) (fun hS => ?_)
        refine Turns.take hS 0 _ rfl (by kernel_rfl) (by kernel_rfl) (by kernel_rfl) (by kernel_rfl) (fun _ _ _ h => h) (by rfl) (fun w' hS' => by (try dsimp only at hS'); go_split_ands; go_simp; (try with_reducible rfl)) ?_
        simp only [Act.put, List.getElem_toArray, List.getElem_cons_succ, List.getElem_cons_zero, List.setIfInBounds_toArray, List.set_cons_zero, List.set_cons_succ]
        refine Turns.take hS 1 _ rfl (by kernel_rfl) (by kernel_rfl) (by kernel_rfl) (by kernel_rfl) (fun _ _ _ h => h) (by rfl) (fun w' hS' => by (try dsimp only at hS'); go_split_ands; go_simp; (try with_reducible rfl)) ?_
        simp only [Act.put, List.getElem_toArray, List.getElem_cons_succ, List.getElem_cons_zero, List.setIfInBounds_toArray, List.set_cons_zero, List.set_cons_succ]
        refine Turns.take hS 2 _ rfl (by kernel_rfl) (by kernel_rfl) (by kernel_rfl) (by kernel_rfl) (fun _ _ _ h => h) (by rfl) (fun w' hS' => by (try dsimp only at hS'); go_split_ands; go_simp; (try with_reducible rfl)) ?_
        simp only [Act.put, List.getElem_toArray, List.getElem_cons_succ, List.getElem_cons_zero, List.setIfInBounds_toArray, List.set_cons_zero, List.set_cons_succ]
        refine Turns.take hS 3 _ rfl (by kernel_rfl) (by kernel_rfl) (by kernel_rfl) (by kernel_rfl) (fun _ _ _ h => h) (by rfl) (fun w' hS' => by (try dsimp only at hS'); go_split_ands; go_simp; (try with_reducible rfl)) ?_
        simp only [Act.put, List.getElem_toArray, List.getElem_cons_succ, List.getElem_cons_zero, List.setIfInBounds_toArray, List.set_cons_zero, List.set_cons_succ]
        refine Turns.take hS 4 _ rfl (by kernel_rfl) (by kernel_rfl) (by kernel_rfl) (by kernel_rfl) (fun _ _ _ h => h) (by rfl) (fun w' hS' => by (try dsimp only at hS'); go_split_ands; go_simp; (try with_reducible rfl)) ?_
        simp only [Act.put, List.getElem_toArray, List.getElem_cons_succ, List.getElem_cons_zero, List.setIfInBounds_toArray, List.set_cons_zero, List.set_cons_succ]
        refine Turns.take hS 5 _ rfl (by kernel_rfl) (by kernel_rfl) (by kernel_rfl) (by kernel_rfl) (fun _ _ _ h => h) (by rfl) (fun w' hS' => by (try dsimp only at hS'); go_split_ands; go_simp; (try with_reducible rfl)) ?_
        simp only [Act.put, List.getElem_toArray, List.getElem_cons_succ, List.getElem_cons_zero, List.setIfInBounds_toArray, List.set_cons_zero, List.set_cons_succ]
        refine Turns.take hS 6 _ rfl (by kernel_rfl) (by kernel_rfl) (by kernel_rfl) (by kernel_rfl) (fun _ _ _ h => h) (by rfl) (fun w' hS' => by (try dsimp only at hS'); go_split_ands; go_simp; (try with_reducible rfl)) ?_
        simp only [Act.put, List.getElem_toArray, List.getElem_cons_succ, List.getElem_cons_zero, List.setIfInBounds_toArray, List.set_cons_zero, List.set_cons_succ]
        refine Turns.take hS 7 _ rfl (by kernel_rfl) (by kernel_rfl) (by kernel_rfl) (by kernel_rfl) (fun _ _ _ h => h) (by rfl) (fun w' hS' => by (try dsimp only at hS'); go_split_ands; go_simp; (try with_reducible rfl)) ?_
        simp only [Act.put, List.getElem_toArray, List.getElem_cons_succ, List.getElem_cons_zero, List.setIfInBounds_toArray, List.set_cons_zero, List.set_cons_succ]
        refine Turns.take hS 8 _ rfl (by kernel_rfl) (by kernel_rfl) (by kernel_rfl) (by kernel_rfl) (fun _ _ _ h => h) (by rfl) (fun w' hS' => by (try dsimp only at hS'); go_split_ands; go_simp; (try with_reducible rfl)) ?_
        simp only [Act.put, List.getElem_toArray, List.getElem_cons_succ, List.getElem_cons_zero, List.setIfInBounds_toArray, List.set_cons_zero, List.set_cons_succ]
        refine Turns.take hS 9 _ rfl (by kernel_rfl) (by kernel_rfl) (by kernel_rfl) (by kernel_rfl) (fun _ _ _ h => h) (by rfl) (fun w' hS' => by (try dsimp only at hS'); go_split_ands; go_simp; (try with_reducible rfl)) ?_
        simp only [Act.put, List.getElem_toArray, List.getElem_cons_succ, List.getElem_cons_zero, List.setIfInBounds_toArray, List.set_cons_zero, List.set_cons_succ]
        refine Turns.take hS 10 _ rfl (by kernel_rfl) (by kernel_rfl) (by kernel_rfl) (by kernel_rfl) (fun _ _ _ h => h) (by rfl) (fun w' hS' => by (try dsimp only at hS'); go_split_ands; go_simp; (try with_reducible rfl)) ?_
        simp only [Act.put, List.getElem_toArray, List.getElem_cons_succ, List.getElem_cons_zero, List.setIfInBounds_toArray, List.set_cons_zero, List.set_cons_succ]
        refine Turns.take hS 11 _ rfl (by kernel_rfl) (by kernel_rfl) (by kernel_rfl) (by kernel_rfl) (fun _ _ _ h => h) (by rfl) (fun w' hS' => by (try dsimp only at hS'); go_split_ands; go_simp; (try with_reducible rfl)) ?_
        simp only [Act.put, List.getElem_toArray, List.getElem_cons_succ, List.getElem_cons_zero, List.setIfInBounds_toArray, List.set_cons_zero, List.set_cons_succ]
        refine Turns.take hS 12 _ rfl (by kernel_rfl) (by kernel_rfl) (by kernel_rfl) (by kernel_rfl) (fun _ _ _ h => h) (by rfl) (fun w' hS' => by (try dsimp only at hS'); go_split_ands; go_simp; (try with_reducible rfl)) ?_
        simp only [Act.put, List.getElem_toArray, List.getElem_cons_succ, List.getElem_cons_zero, List.setIfInBounds_toArray, List.set_cons_zero, List.set_cons_succ]
        refine Turns.take hS 13 _ rfl (by kernel_rfl) (by kernel_rfl) (by kernel_rfl) (by kernel_rfl) (fun _ _ _ h => h) (by rfl) (fun w' hS' => by (try dsimp only at hS'); go_split_ands; go_simp; (try with_reducible rfl)) ?_
        simp only [Act.put, List.getElem_toArray, List.getElem_cons_succ, List.getElem_cons_zero, List.setIfInBounds_toArray, List.set_cons_zero, List.set_cons_succ]
        refine Turns.take hS 14 _ rfl (by kernel_rfl) (by kernel_rfl) (by kernel_rfl) (by kernel_rfl) (fun _ _ _ h => h) (by rfl) (fun w' hS' => by (try dsimp only at hS'); go_split_ands; go_simp; (try with_reducible rfl)) ?_
        simp only [Act.put, List.getElem_toArray, List.getElem_cons_succ, List.getElem_cons_zero, List.setIfInBounds_toArray, List.set_cons_zero, List.set_cons_succ]
        refine Turns.take hS 15 _ rfl (by kernel_rfl) (by kernel_rfl) (by kernel_rfl) (by kernel_rfl) (fun _ _ _ h => h) (by rfl) (fun w' hS' => by (try dsimp only at hS'); go_split_ands; go_simp; (try with_reducible rfl)) ?_
        simp only [Act.put, List.getElem_toArray, List.getElem_cons_succ, List.getElem_cons_zero, List.setIfInBounds_toArray, List.set_cons_zero, List.set_cons_succ]
        refine Turns.take hS 16 _ rfl (by kernel_rfl) (by kernel_rfl) (by kernel_rfl) (by kernel_rfl) (fun _ _ _ h => h) (by rfl) (fun w' hS' => by (try dsimp only at hS'); go_split_ands; go_simp; (try with_reducible rfl)) ?_
        simp only [Act.put, List.getElem_toArray, List.getElem_cons_succ, List.getElem_cons_zero, List.setIfInBounds_toArray, List.set_cons_zero, List.set_cons_succ]
        refine Turns.take hS 17 _ rfl (by kernel_rfl) (by kernel_rfl) (by kernel_rfl) (by kernel_rfl) (fun _ _ _ h => h) (by rfl) (fun w' hS' => by (try dsimp only at hS'); go_split_ands; go_simp; (try with_reducible rfl)) ?_
        simp only [Act.put, List.getElem_toArray, List.getElem_cons_succ, List.getElem_cons_zero, List.setIfInBounds_toArray, List.set_cons_zero, List.set_cons_succ]
        refine Turns.take hS 18 _ rfl (by kernel_rfl) (by kernel_rfl) (by kernel_rfl) (by kernel_rfl) (fun _ _ _ h => h) (by rfl) (fun w' hS' => by (try dsimp only at hS'); go_split_ands; go_simp; (try with_reducible rfl)) ?_
        simp only [Act.put, List.getElem_toArray, List.getElem_cons_succ, List.getElem_cons_zero, List.setIfInBounds_toArray, List.set_cons_zero, List.set_cons_succ]
        refine Turns.take hS 19 _ rfl (by kernel_rfl) (by kernel_rfl) (by kernel_rfl) (by kernel_rfl) (fun _ _ _ h => h) (by rfl) (fun w' hS' => by (try dsimp only at hS'); go_split_ands; go_simp; (try with_reducible rfl)) ?_
        simp only [Act.put, List.getElem_toArray, List.getElem_cons_succ, List.getElem_cons_zero, List.setIfInBounds_toArray, List.set_cons_zero, List.set_cons_succ]
        refine Turns.take hS 20 _ rfl (by kernel_rfl) (by kernel_rfl) (by kernel_rfl) (by kernel_rfl) (fun _ _ _ h => h) (by rfl) (fun w' hS' => by (try dsimp only at hS'); go_split_ands; go_simp; (try with_reducible rfl)) ?_
        simp only [Act.put, List.getElem_toArray, List.getElem_cons_succ, List.getElem_cons_zero, List.setIfInBounds_toArray, List.set_cons_zero, List.set_cons_succ]
        refine Turns.take hS 21 _ rfl (by kernel_rfl) (by kernel_rfl) (by kernel_rfl) (by kernel_rfl) (fun _ _ _ h => h) (by rfl) (fun w' hS' => by (try dsimp only at hS'); go_split_ands; go_simp; (try with_reducible rfl)) ?_
        simp only [Act.put, List.getElem_toArray, List.getElem_cons_succ, List.getElem_cons_zero, List.setIfInBounds_toArray, List.set_cons_zero, List.set_cons_succ]
        refine Turns.take hS 22 _ rfl (by kernel_rfl) (by kernel_rfl) (by kernel_rfl) (by kernel_rfl) (fun _ _ _ h => h) (by rfl) (fun w' hS' => by (try dsimp only at hS'); go_split_ands; go_simp; (try with_reducible rfl)) ?_
        simp only [Act.put, List.getElem_toArray, List.getElem_cons_succ, List.getElem_cons_zero, List.setIfInBounds_toArray, List.set_cons_zero, List.set_cons_succ]
        refine Turns.take hS 23 _ rfl (by kernel_rfl) (by kernel_rfl) (by kernel_rfl) (by kernel_rfl) (fun _ _ _ h => h) (by rfl) (fun w' hS' => by (try dsimp only at hS'); go_split_ands; go_simp; (try with_reducible rfl)) ?_
        simp only [Act.put, List.getElem_toArray, List.getElem_cons_succ, List.getElem_cons_zero, List.setIfInBounds_toArray, List.set_cons_zero, List.set_cons_succ]
        refine Turns.take hS 24 _ rfl (by kernel_rfl) (by kernel_rfl) (by kernel_rfl) (by kernel_rfl) (fun _ _ _ h => h) (by rfl) (fun w' hS' => by (try dsimp only at hS'); go_split_ands; go_simp; (try with_reducible rfl)) ?_
        simp only [Act.put, List.getElem_toArray, List.getElem_cons_succ, List.getElem_cons_zero, List.setIfInBounds_toArray, List.set_cons_zero, List.set_cons_succ]
        refine Turns.take hS 25 _ rfl (by kernel_rfl) (by kernel_rfl) (by kernel_rfl) (by kernel_rfl) (fun _ _ _ h => h) (by rfl) (fun w' hS' => by (try dsimp only at hS'); go_split_ands; go_simp; (try with_reducible rfl)) ?_
        simp only [Act.put, List.getElem_toArray, List.getElem_cons_succ, List.getElem_cons_zero, List.setIfInBounds_toArray, List.set_cons_zero, List.set_cons_succ]
        refine Turns.take hS 26 _ rfl (by kernel_rfl) (by kernel_rfl) (by kernel_rfl) (by kernel_rfl) (fun _ _ _ h => h) (by rfl) (fun w' hS' => by (try dsimp only at hS'); go_split_ands; go_simp; (try with_reducible rfl)) ?_
        simp only [Act.put, List.getElem_toArray, List.getElem_cons_succ, List.getElem_cons_zero, List.setIfInBounds_toArray, List.set_cons_zero, List.set_cons_succ]
        refine Turns.take hS 27 _ rfl (by kernel_rfl) (by kernel_rfl) (by kernel_rfl) (by kernel_rfl) (fun _ _ _ h => h) (by rfl) (fun w' hS' => by (try dsimp only at hS'); go_split_ands; go_simp; (try with_reducible rfl)) ?_
        simp only [Act.put, List.getElem_toArray, List.getElem_cons_succ, List.getElem_cons_zero, List.setIfInBounds_toArray, List.set_cons_zero, List.set_cons_succ]
        refine Turns.take hS 28 _ rfl (by kernel_rfl) (by kernel_rfl) (by kernel_rfl) (by kernel_rfl) (fun _ _ _ h => h) (by rfl) (fun w' hS' => by (try dsimp only at hS'); go_split_ands; go_simp; (try with_reducible rfl)) ?_
        simp only [Act.put, List.getElem_toArray, List.getElem_cons_succ, List.getElem_cons_zero, List.setIfInBounds_toArray, List.set_cons_zero, List.set_cons_succ]
        refine Turns.take hS 29 _ rfl (by kernel_rfl) (by kernel_rfl) (by kernel_rfl) (by kernel_rfl) (fun _ _ _ h => h) (by rfl) (fun w' hS' => by (try dsimp only at hS'); go_split_ands; go_simp; (try with_reducible rfl)) ?_
        simp only [Act.put, List.getElem_toArray, List.getElem_cons_succ, List.getElem_cons_zero, List.setIfInBounds_toArray, List.set_cons_zero, List.set_cons_succ]
        refine Turns.take hS 30 _ rfl (by kernel_rfl) (by kernel_rfl) (by kernel_rfl) (by kernel_rfl) (fun _ _ _ h => h) (by rfl) (fun w' hS' => by (try dsimp only at hS'); go_split_ands; go_simp; (try with_reducible rfl)) ?_
        simp only [Act.put, List.getElem_toArray, List.getElem_cons_succ, List.getElem_cons_zero, List.setIfInBounds_toArray, List.set_cons_zero, List.set_cons_succ]
        refine Turns.take hS 31 _ rfl (by kernel_rfl) (by kernel_rfl) (by kernel_rfl) (by kernel_rfl) (fun _ _ _ h => h) (by rfl) (fun w' hS' => by (try dsimp only at hS'); go_split_ands; go_simp; (try with_reducible rfl)) ?_
        simp only [Act.put, List.getElem_toArray, List.getElem_cons_succ, List.getElem_cons_zero, List.setIfInBounds_toArray, List.set_cons_zero, List.set_cons_succ]
        refine Turns.next 32 rfl (by kernel_rfl) (by rfl) (fun K hK => ?_)
        go_simp
        refine hK.out _ _ (show (fun (w' : World) => w'.cell? ⟨gd, 0, none⟩ = some (.pointer (some ⟨ge, 0, none⟩)) ∧ w'.cell? ⟨ge, 0, none⟩ = some (.int .i64 f.s.me) ∧ w'.cell? ⟨ge, 5, none⟩ = some (.int .i64 f.s.root) ∧ w'.cell? ⟨gd, 6, none⟩ = some (.int .i64 f.ph) ∧ w'.cell? ⟨gd, 5, none⟩ = some (.int .i64 f.pg) ∧ w'.cell? ⟨gd, 4, none⟩ = some (.int .i64 f.pl)) _ from hde) ?_
        clear hK K hS
        have hS := (show (fun (w' : World) => w'.cell? ⟨gd, 0, none⟩ = some (.pointer (some ⟨ge, 0, none⟩)) ∧ w'.cell? ⟨ge, 0, none⟩ = some (.int .i64 f.s.me) ∧ w'.cell? ⟨ge, 5, none⟩ = some (.int .i64 f.s.root) ∧ w'.cell? ⟨gd, 6, none⟩ = some (.int .i64 f.ph) ∧ w'.cell? ⟨gd, 5, none⟩ = some (.int .i64 f.pg) ∧ w'.cell? ⟨gd, 4, none⟩ = some (.int .i64 f.pl)) _ from hde)
        refine Turns.next 33 rfl (by kernel_rfl) (by rfl) (fun K hK => ?_)
        simp only [List.getElem_toArray, List.getElem_cons_succ, List.getElem_cons_zero]
        refine wp_store_at 57 (.tmp 8) (.tmp 110) rfl w6.heap.size 0 (plainC 1 (f.s.me, f.s.root, m0, m1, f.ph, T)) ?hs ?hx 57 zero14 HPn.out plain_size2 (Nat.le_refl 14) (plainC_one _ _) ?_
        case hs => first | rfl | simp [Act.eval, Act.put]
        case hx => first | rfl | simp [Act.eval, Act.put, plainC]
        refine hK.out _ _ (show (fun (w' : World) => w'.cell? ⟨gd, 0, none⟩ = some (.pointer (some ⟨ge, 0, none⟩)) ∧ w'.cell? ⟨ge, 0, none⟩ = some (.int .i64 f.s.me) ∧ w'.cell? ⟨ge, 5, none⟩ = some (.int .i64 f.s.root) ∧ w'.cell? ⟨gd, 6, none⟩ = some (.int .i64 f.ph) ∧ w'.cell? ⟨gd, 5, none⟩ = some (.int .i64 f.pg) ∧ w'.cell? ⟨gd, 4, none⟩ = some (.int .i64 f.pl)) _ from hdf) ?_
        clear hK K hS
        have hS := (show (fun (w' : World) => w'.cell? ⟨gd, 0, none⟩ = some (.pointer (some ⟨ge, 0, none⟩)) ∧ w'.cell? ⟨ge, 0, none⟩ = some (.int .i64 f.s.me) ∧ w'.cell? ⟨ge, 5, none⟩ = some (.int .i64 f.s.root) ∧ w'.cell? ⟨gd, 6, none⟩ = some (.int .i64 f.ph) ∧ w'.cell? ⟨gd, 5, none⟩ = some (.int .i64 f.pg) ∧ w'.cell? ⟨gd, 4, none⟩ = some (.int .i64 f.pl)) _ from hdf)
        refine Turns.rest (late_done (by kernel_rfl)) ?_
        refine any_tail 34 (by rfl) (by kernel_rfl) ?_
        simp only [List.drop_succ_cons, List.drop_zero]
        clear hS
        have z0 := HPr.out.cell 0
        have z1 := HPr.out.cell 1
        have z2 := HPr.out.cell 2
        have z3 := HPr.out.cell 3
        have z4 := HPr.out.cell 4
        have z5 := HPr.out.cell 5
        have z6 := HPr.out.cell 6
        have z7 := HPr.out.cell 7
        have z8 := HPr.out.cell 8
        have z9 := HPr.out.cell 9
        have z10 := HPr.out.cell 10
        have z11 := HPr.out.cell 11
        have z12 := HPr.out.cell 12
        have z13 := HPr.out.cell 13
        go_wp2_with (first
          | (go_at_call 49; (with_reducible refine (HGd.out _).mono ?_); rintro e w9 ⟨rfl, hb9⟩; have HWg := Lib.hid (HWf.out.below hb9); have HP9 := Lib.hid (HPr.out.below hb9 HPr.out.lt); clear z0 z1 z2 z3 z4 z5 z6 z7 z8 z9 z10 z11 z12 z13 hb9; have y0 := HP9.out.cell 0; have y1 := HP9.out.cell 1; have y2 := HP9.out.cell 2; have y3 := HP9.out.cell 3; have y4 := HP9.out.cell 4; have y5 := HP9.out.cell 5; have y6 := HP9.out.cell 6; have y7 := HP9.out.cell 7; have y8 := HP9.out.cell 8; have y9 := HP9.out.cell 9; have y10 := HP9.out.cell 10; have y11 := HP9.out.cell 11; have y12 := HP9.out.cell 12; have y13 := HP9.out.cell 13)
          | (refine wpList_store_at rfl 57 (.tmp 4) (.tmp 114) rfl w.heap.size 0 (plainC 0 noW) rfl rfl 57 zero14 HWg.out.box plain_size2 (Nat.le_refl 14) (plainC_one _ _) ?_))
        have HE := Dw.put (C := zero14) HWg.out HO.out (plainC 0 noW) rfl
        refine bodyPost_ret (results_cell_row rfl _ _ w.heap.size 57 _ (0, 0) _ rfl HE.1 Tryz.underlying57 rfl plain_size2) rfl ?_
        exact ⟨rfl, HE.2⟩
end Go.Proofs.YtgmeakcfiaopcaaGreat

/- Package flood: a word is passed on. -/
import Derived.Test.YtgmeakcfiaopcaaGreatFlD
namespace Go.Proofs.YtgmeakcfiaopcaaGreat
open Go.RowKit
set_option linter.unusedVariables false
set_option linter.unusedSimpArgs false

def zeroW : List Value := [.int .i64 0, .int .i64 0, .int .u16 0, .int .u16 0, .int .i64 0, .int .i64 0]
def wordC (W : W6) : List Value := [.int .i64 W.1, .int .i64 W.2.1, .int .u16 W.2.2.1, .int .u16 W.2.2.2.1, .int .i64 W.2.2.2.2.1, .int .i64 W.2.2.2.2.2]
theorem wordC_one (W : W6) : ∀ v ∈ wordC W, v.oneCell' = true := by
  intro v hv
  simp only [wordC, List.mem_cons, List.not_mem_nil, or_false] at hv
  rcases hv with rfl | rfl | rfl | rfl | rfl | rfl <;> rfl
theorem sync_size : (Tryz.prog.info? 63).map (·.size) = some 6 := by kernel_rfl
theorem said16 {s : St} (h : Inv s) : F16 (saidV s).1 ∧ F16 (saidV s).2 := by
  unfold saidV
  split
  · exact ⟨h.boot, h.seq⟩
  · split
    · exact ⟨⟨by decide, by decide⟩, ⟨by decide, by decide⟩⟩
    · cases hf : s.f s.root with
      | none => exact ⟨⟨by decide, by decide⟩, ⟨by decide, by decide⟩⟩
      | some p => exact h.marks _ _ hf
/-- A word's variable is written whole. -/
theorem word_put {w0 V : World} {C : List Value} (h : Box w0 63 C.toArray V) (hC : C.length = 6) (W : W6) : Box w0 63 (wordC W).toArray (V.setRow w0.heap.size (splice C 0 (wordC W)).toArray) := by
  rw [splice_all C (wordC W) (by rw [hC]; rfl)]
  exact ⟨h.holds.row _, Below.chg h.below (Chg.of_grown (grown_row V w0.heap.size _) (S := fun k => w0.heap.size ≤ k) (fun k e => by cases e; exact Nat.le_refl _)) h.below.size (fun k hk => hk)⟩
set_option maxHeartbeats 400000 in
set_option maxRecDepth 100000 in
theorem pass_any (w : World) (B gf g b n : Nat) (f : FS) (h : Fo w B gf g b n f) (hI : FInv f) (h1 : minB f = false) (h2 : synB f = true) (lo : Int) (hlo : timeB lo = true) (W : W6) (ok : Bool)
    (hs : timeB (f.pg + (lo - f.pl)) = true ∧ W = (f.s.me, f.s.root, (saidV f.s).1, (saidV f.s).2, f.ph, f.pg + (lo - f.pl)) ∧ ok = true ∨ timeB (f.pg + (lo - f.pl)) = false ∧ W = noW ∧ ok = false) :
    Calls Tryz.prog 43 #[.pointer (some ⟨gf, 0, none⟩), .int .i64 lo] w fun e w' => e = .returned (.tuple #[wordV W, .bool ok]) ∧ Below w.heap.size w w' := by
  have HR := Lib.hid (Box.start w 63 #[.int .i64 0, .int .i64 0, .int .u16 0, .int .u16 0, .int .i64 0, .int .i64 0])
  have HF := Lib.hid (fun V (hb : Below w.heap.size w V) => h.below hb)
  have hmk := mark_at (HF.out _ HR.out.below).node
  obtain ⟨l0, l1⟩ := (timeB_iff lo).1 hlo
  obtain ⟨pl0, pl1⟩ := hI.pl
  obtain ⟨pg0, pg1⟩ := hI.pg
  have hroot := hI.s.root
  have hme := hI.s.me
  have hk0 := hI.know (syn_some hI h1 h2)
  have hph := hI.ph
  have e1 := IntWalk.i64_in (lo - f.pl) (by omega)
  have e2 := IntWalk.i64_in (f.pg + (lo - f.pl)) (by omega)
  have hT : Fits (f.pg + (lo - f.pl)) := ⟨by omega, by omega⟩
  have hgood : wgoodB f.s.me f.s.root f.ph (f.pg + (lo - f.pl)) = timeB (f.pg + (lo - f.pl)) := by
    unfold wgoodB
    rw [decide_eq_true (show 0 ≤ f.s.me ∧ f.s.me ≤ 63 by omega), decide_eq_true (show 0 ≤ f.s.root ∧ f.s.root ≤ 63 by omega), decide_eq_true (show 0 ≤ f.ph ∧ f.ph ≤ 63 by omega)]
    rfl
  have hmarks : F16 (saidV f.s).1 ∧ F16 (saidV f.s).2 := said16 hI.s
  have hgd := fun V => wgood_any f.s.me f.s.root (saidV f.s).1 (saidV f.s).2 f.ph (f.pg + (lo - f.pl)) V ⟨by omega, by omega⟩ ⟨by omega, by omega⟩ hmarks.1 hmarks.2 ⟨by omega, by omega⟩ hT
  rw [hgood] at hgd
  obtain ⟨T, hTT⟩ : ∃ T, f.pg + (lo - f.pl) = T := ⟨_, rfl⟩
  obtain ⟨m0, m1, hm⟩ : ∃ m0 m1, saidV f.s = (m0, m1) := ⟨_, _, rfl⟩
  have hwd := fun V (hb : Below w.heap.size w V) => word_any V B gf g b n f (HF.out V hb) m0 m1 f.pl T f.ph
  have hcl := fun V (hb : Below w.heap.size w V) => (HF.out V hb).cells
  rw [hm] at hmk hgd hs
  rw [hTT] at e2 hgd hs
  obtain ⟨q, hq⟩ : ∃ q, timeB T = q := ⟨_, rfl⟩
  rw [hq] at hgd hs
  simp only [hm, hTT] at hs
  have HW := Lib.hid hwd
  have HCl := Lib.hid hcl
  have HG := Lib.hid hgd
  have hg0 := (HCl.out _ HR.out.below).1
  clear h hI h1 h2 hlo l0 l1 pl0 pl1 pg0 pg1 hroot hme hk0 hph hT hgood hmarks hwd hcl hgd hq hm
  unfold wordV at HW
  rcases hs with ⟨rfl, rfl, rfl⟩ | ⟨rfl, rfl, rfl⟩
  · skip
    go_enter Tryz.func43, Tryz.ntmps43
    go_wp2_with (first
      | (go_at_call 56; refine hmk.mono ?_; rintro e w1 ⟨rfl, hb1⟩; have HR1 := Lib.hid ((HR.out.next hb1).alloc (.cells #[.int .u16 m0, .int .u16 m1] 99)); obtain ⟨-, -, -, -, k1, k2, k3⟩ := HCl.out _ HR1.out.below; have HM := Lib.hid (Holds.new w1 99 #[.int .u16 m0, .int .u16 m1]); have hw2 := HW.out _ (HR1.out.alloc (.cells #[.int .i64 f.pl, .int .i64 T, .int .i64 f.ph] 87)).below; clear hmk hb1)
      | (go_at_call 42; (with_reducible refine hw2.mono ?_); rintro e w2 ⟨rfl, hb2⟩; have HR2 := Lib.hid (((HR1.out.alloc (.cells #[.int .i64 f.pl, .int .i64 T, .int .i64 f.ph] 87)).next hb2).alloc (.cells #[.int .i64 f.s.me, .int .i64 f.s.root, .int .u16 m0, .int .u16 m1, .int .i64 f.ph, .int .i64 T] 63)); have HY := Lib.hid (Holds.new w2 63 #[.int .i64 f.s.me, .int .i64 f.s.root, .int .u16 m0, .int .u16 m1, .int .i64 f.ph, .int .i64 T]); have y0 := HY.out.cell 0; have y1 := HY.out.cell 1; have y2 := HY.out.cell 2; have y3 := HY.out.cell 3; have y4 := HY.out.cell 4; have y5 := HY.out.cell 5; clear hb2)
      | (go_at_call 65; (with_reducible refine (HG.out _).mono ?_); rintro e w3 ⟨rfl, hb3⟩; have HR3 := Lib.hid (HR2.out.next hb3); have HY3 := Lib.hid (HY.out.below hb3 HY.out.lt); have x0 := HY3.out.cell 0; have x1 := HY3.out.cell 1; have x2 := HY3.out.cell 2; have x3 := HY3.out.cell 3; have x4 := HY3.out.cell 4; have x5 := HY3.out.cell 5; clear hb3 y0 y1 y2 y3 y4 y5)
      | (refine wpList_store_at rfl 63 (.tmp 4) (.tmp 39) rfl w.heap.size 0 (wordC (f.s.me, f.s.root, m0, m1, f.ph, T)) rfl rfl 63 zeroW HR3.out.holds sync_size (Nat.le_refl 6) (wordC_one _) ?_))
    have HE := word_put (C := zeroW) HR3.out rfl (f.s.me, f.s.root, m0, m1, f.ph, T)
    refine bodyPost_ret (results_row_tmp rfl _ _ w.heap.size 63 (wordC (f.s.me, f.s.root, m0, m1, f.ph, T)) _ _ rfl HE.holds Tryz.underlying63 rfl sync_size rfl) rfl ?_
    exact ⟨rfl, HE.below⟩
  · skip
    go_enter Tryz.func43, Tryz.ntmps43
    go_wp2_with (first
      | (go_at_call 56; refine hmk.mono ?_; rintro e w1 ⟨rfl, hb1⟩; have HR1 := Lib.hid ((HR.out.next hb1).alloc (.cells #[.int .u16 m0, .int .u16 m1] 99)); obtain ⟨-, -, -, -, k1, k2, k3⟩ := HCl.out _ HR1.out.below; have HM := Lib.hid (Holds.new w1 99 #[.int .u16 m0, .int .u16 m1]); have hw2 := HW.out _ (HR1.out.alloc (.cells #[.int .i64 f.pl, .int .i64 T, .int .i64 f.ph] 87)).below; clear hmk hb1)
      | (go_at_call 42; (with_reducible refine hw2.mono ?_); rintro e w2 ⟨rfl, hb2⟩; have HR2 := Lib.hid (((HR1.out.alloc (.cells #[.int .i64 f.pl, .int .i64 T, .int .i64 f.ph] 87)).next hb2).alloc (.cells #[.int .i64 f.s.me, .int .i64 f.s.root, .int .u16 m0, .int .u16 m1, .int .i64 f.ph, .int .i64 T] 63)); have HY := Lib.hid (Holds.new w2 63 #[.int .i64 f.s.me, .int .i64 f.s.root, .int .u16 m0, .int .u16 m1, .int .i64 f.ph, .int .i64 T]); have y0 := HY.out.cell 0; have y1 := HY.out.cell 1; have y2 := HY.out.cell 2; have y3 := HY.out.cell 3; have y4 := HY.out.cell 4; have y5 := HY.out.cell 5; clear hb2)
      | (go_at_call 65; (with_reducible refine (HG.out _).mono ?_); rintro e w3 ⟨rfl, hb3⟩; have HR3 := Lib.hid (HR2.out.next hb3); have HY3 := Lib.hid (HY.out.below hb3 HY.out.lt); have x0 := HY3.out.cell 0; have x1 := HY3.out.cell 1; have x2 := HY3.out.cell 2; have x3 := HY3.out.cell 3; have x4 := HY3.out.cell 4; have x5 := HY3.out.cell 5; clear hb3 y0 y1 y2 y3 y4 y5)
      | (refine wpList_store_at rfl 63 (.tmp 4) (.tmp 38) rfl w.heap.size 0 (wordC noW) rfl rfl 63 zeroW HR3.out.holds sync_size (Nat.le_refl 6) (wordC_one _) ?_))
    have HE := word_put (C := zeroW) HR3.out rfl noW
    refine bodyPost_ret (results_row_tmp rfl _ _ w.heap.size 63 (wordC noW) _ _ rfl HE.holds Tryz.underlying63 rfl sync_size rfl) rfl ?_
    exact ⟨rfl, HE.below⟩
end Go.Proofs.YtgmeakcfiaopcaaGreat

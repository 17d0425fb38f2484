/- What the stage's laws ask first: what the document tells. -/
import Derived.Test.YtdnmgpendacjoaaGreatFlK
namespace Go.Proofs.YtdnmgpendacjoaaGreat
open Go.RowKit
set_option linter.unusedVariables false
set_option linter.unusedSimpArgs false

set_option maxHeartbeats 2000000 in
set_option maxRecDepth 100000 in
theorem alive_yes (w : World) : Calls Tryz.prog 4 #[] w fun e w' => e = .returned (.bool true) ∧ Below w.heap.size w w' := by
  have hnew := fun W => fnew_yes W 5 3 0 1 10 (by decide)
  have hI0 : FInv (newF 5 3 0 1 10 0) := FInv.new (by decide) ⟨by decide, by decide⟩
  have hI1 : FInv (hearFS (newF 5 3 0 1 10 0) 3 0 1 500 0 100) := hI0.hear _ _ _ _ _ _ ⟨by decide, by decide⟩ ⟨by decide, by decide⟩
  have hv : hearFV (newF 5 3 0 1 10 0) 3 0 1 500 0 100 = 2 := by decide
  have hL : (hearFS (newF 5 3 0 1 10 0) 3 0 1 500 0 100).L = [(100, 400, 1)] := by decide
  have ht : Tells (hearFS (newF 5 3 0 1 10 0) 3 0 1 500 0 100) 150 550 1 0 := single_tells (e := (100, 400, 1)) (lo := 150) hL ⟨by decide, by decide, by decide, by decide, by decide, by decide⟩ (by decide) (by decide) ⟨by decide, by decide⟩ ⟨by decide, by decide⟩
  have hs : Says (beatF (hearFS (newF 5 3 0 1 10 0) 3 0 1 500 0 100)) 160 (5, 3, 0, 1, 1, 560) true (beatF (hearFS (newF 5 3 0 1 10 0) 3 0 1 500 0 100)) :=
    .inr (.inr (.inr (.inl ⟨by decide, by decide, by decide, by decide, by decide, rfl, rfl⟩)))
  obtain ⟨f0, hf0⟩ : ∃ f0, newF 5 3 0 1 10 0 = f0 := ⟨_, rfl⟩
  rw [hf0] at hI0 hI1 hv ht hs
  simp only [hf0] at hnew
  have hhear := fun V gf g b (h : Fo V w.heap.size gf g b 0 f0) => fhear_any V w.heap.size gf g b 0 f0 h hI0 (by omega) 3 3 0 1 0 500 100 ⟨by decide, by decide⟩ ⟨by decide, by decide⟩ ⟨by decide, by decide⟩
  unfold FHeard at hhear
  rw [hv] at hhear
  obtain ⟨f1, hf1⟩ : ∃ f1, hearFS f0 3 0 1 500 0 100 = f1 := ⟨_, rfl⟩
  rw [hf1] at hI1 ht hs
  simp only [hf1] at hhear
  have htime := fun V gf g b (h : Fo V w.heap.size gf g b 1 f1) => ftell_any V w.heap.size gf g b 1 f1 h hI1 150 550 1 0 ht
  have hbeat := fun V gf g b (h : Fo V w.heap.size gf g b 1 f1) => fbeat_any V w.heap.size gf g b 1 f1 h hI1 160 ⟨by decide, by decide⟩ (5, 3, 0, 1, 1, 560) true _ hs
  unfold wordV at hbeat
  have HH := Lib.hid hhear
  have HT := Lib.hid htime
  have HB := Lib.hid hbeat
  have HN := Lib.hid hnew
  have H0 := Lib.hid (Below.refl w.heap.size w)
  clear hI0 hI1 hv hL ht hs hf0 hf1 hhear htime hbeat hnew
  go_enter Tryz.func4, Tryz.ntmps4
  go_wp2_with (first
    | (go_at_call 6; refine (lrules_any _ _ _ _ _).mono ?_; rintro e w1 ⟨rfl, hb1⟩; have H1 := Lib.hid hb1; clear hb1)
    | (go_at_call 5; refine (HN.out _).mono ?_; rintro e w2 ⟨gf, g, b, rfl, hF2, hb2⟩; have HF2 := Lib.hid (hF2.at H1.out.size); have H2 := Lib.hid (H1.out.trans (hb2.mono H1.out.size)); have hh := HH.out _ _ _ _ HF2.out; clear hF2 hb2)
    | (go_at_call 10; refine hh.mono ?_; rintro e w3 ⟨rfl, b3, hF3, hc3, -⟩; have H3 := Lib.hid (Below.chg H2.out hc3 H2.out.size (fun k hk => by rcases hk with e | e | e <;> rw [e] <;> first | exact HF2.out.newer | exact HF2.out.node.newer.1 | exact HF2.out.node.newer.2)); have HF3 := Lib.hid hF3; have ht := HT.out _ _ _ _ hF3; clear hh hF3 hc3)
    | (go_at_call 9; refine ht.mono ?_; rintro e w4 ⟨rfl, hb4⟩; have HF4 := Lib.hid (HF3.out.below hb4); have H4 := Lib.hid (H3.out.trans (hb4.mono H3.out.size)); have hbt := HB.out _ _ _ _ HF4.out; clear ht hb4)
    | (go_at_call 8; refine hbt.mono ?_; rintro e w5 ⟨rfl, b5, hF5, hc5, -⟩; have H5 := Lib.hid (Below.chg H4.out hc5 H4.out.size (fun k hk => by rcases hk with e | e | e <;> rw [e] <;> first | exact HF4.out.newer | exact HF4.out.node.newer.1 | exact HF4.out.node.newer.2)); clear hbt hF5 hc5))
  go_ret
  exact ⟨rfl, H5.out.alloc H5.out.size _⟩
end Go.Proofs.YtdnmgpendacjoaaGreat

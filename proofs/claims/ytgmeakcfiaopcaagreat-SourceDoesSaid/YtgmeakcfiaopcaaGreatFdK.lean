/- A law's two nodes that flood: the program's and the document's, side by side. -/
import Derived.Test.YtgmeakcfiaopcaaGreatFdC
import Derived.Test.YtgmeakcfiaopcaaGreatFdD
import Derived.Test.YtgmeakcfiaopcaaGreatFdE
import Derived.Test.YtgmeakcfiaopcaaGreatFlK
namespace Go.Proofs.YtgmeakcfiaopcaaGreat
open Go.RowKit
set_option linter.unusedVariables false
set_option linter.unusedSimpArgs false

section
variable {w wr w' : World} {T : TypeId} {C : Array Value} {gf g b n gd ge : Nat} {f f2 : FS} {A : Option Addr} {c : Nat}
/-- What is a map is no row of cells. -/
theorem km_cell {W : World} {k m o : Nat} {h : Int → Option (Int × Int)} (hk : KM W k m h) : W.cell? ⟨k, o, none⟩ = none := by
  obtain ⟨D, ⟨es, clock, h1, _⟩, _⟩ := hk
  unfold World.cell?
  simp [h1]
/-- The program's node made a step: the document's stays. -/
theorem Df.prog (hD : Df wr gd ge A c f2) (hL : Lf w wr T C gf g b n f) (hc : Chg (fpart gf g b) wr w') (h1 : gf ≤ gd) (h2 : g ≤ gd) : Df w' gd ge A c f2 := by
  obtain ⟨cs, hh, _⟩ := hD.node
  obtain ⟨K, hK⟩ := hL.fo.tab
  have n1 : ge ≠ gf := hh.apart hK.holds (by decide)
  have n2 : ge ≠ g := hh.apart hL.fo.node.holds (by decide)
  have n3 : ge ≠ b := hL.fo.node.km.apart hh
  refine ⟨hD.lt, hL.other hD.holds (by constructor <;> decide) hc, hD.row.chg' hc (fun hn b0 off e hk => ?_), hD.node.chg hc (fun hk => by rcases hk with e | e | e <;> contradiction)⟩
  obtain ⟨b1, off1, e1, hB, hb, hcell⟩ := hD.row.cell hn
  rw [e] at e1
  cases e1
  rcases hk with e2 | e2 | e2
  · omega
  · omega
  · have hl : 0 < (trs f2.L).length := by rw [trs_len]; omega
    have hz := hcell 0 _ (List.getElem?_eq_getElem hl)
    rw [e2, km_cell hL.fo.node.km] at hz
    cases hz
/-- The document's node made a step: the program's stays. -/
theorem Lf.doc (hL : Lf w wr T C gf g b n f) (hD : Df wr gd ge A c f2) (hc : Chg (dpart gd ge) wr w') (hm : w.heap.size + 1 ≤ ge) : Lf w w' T C gf g b n f := by
  obtain ⟨cs, hh, _⟩ := hD.node
  obtain ⟨K, hK⟩ := hL.fo.tab
  have hlt := hD.lt
  have n1 : ge ≠ gf := hh.apart hK.holds (by decide)
  have n2 : ge ≠ g := hh.apart hL.fo.node.holds (by decide)
  have n3 : ge ≠ b := hL.fo.node.km.apart hh
  have n4 : gd ≠ gf := hD.holds.apart hK.holds (by decide)
  have n5 : gd ≠ g := hD.holds.apart hL.fo.node.holds (by decide)
  have n6 : gd ≠ b := hL.fo.node.km.apart hD.holds
  have hlow : ∀ k, dpart gd ge k → w.heap.size + 1 ≤ k := fun k hk => by rcases hk with e | e <;> omega
  refine ⟨⟨hL.box.holds.chg hc (fun k => by have := hlow _ k; omega), Below.chg hL.box.below hc (Nat.le_of_lt hL.box.lt) (fun k hk => by have := hlow k hk; omega)⟩, hL.fo.chg hc (fun k hk hk2 => ?_), hL.inv⟩
  rcases hk2 with e2 | e2 <;> rcases hk with e | e | e <;> omega
/-- Another block of the law's own stays. -/
theorem doc_other (hD : Df wr gd ge A c f2) (hc : Chg (dpart gd ge) wr w') {o : Nat} {ty : TypeId} {cs : Array Value} (HO : Holds wr o ty cs) (hT : ty ≠ 95 ∧ ty ≠ 111) : Holds w' o ty cs := by
  obtain ⟨cs', hh, _⟩ := hD.node
  have h1 : o ≠ gd := HO.apart hD.holds hT.1
  have h2 : o ≠ ge := HO.apart hh hT.2
  exact HO.chg hc (fun k => by rcases k with e | e <;> contradiction)
end
end Go.Proofs.YtgmeakcfiaopcaaGreat

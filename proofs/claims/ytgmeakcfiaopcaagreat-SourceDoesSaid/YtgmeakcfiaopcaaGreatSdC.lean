/- The law's two nodes and sources, the program's and the document's, side by side. -/
import Derived.Test.YtgmeakcfiaopcaaGreatSdB
namespace Go.Proofs.YtgmeakcfiaopcaaGreat
open Go.RowKit
set_option linter.unusedVariables false
set_option linter.unusedSimpArgs false

/-- A type of none of the things that are written. -/
def Oth (ty : TypeId) : Prop := ty ≠ 89 ∧ ty ≠ 120 ∧ ty ≠ 79 ∧ ty ≠ 95 ∧ ty ≠ 111 ∧ ty ≠ 53
/-- All other blocks stay. -/
def KeepAll (w w' : World) : Prop := ∀ o ty cs, Oth ty → Holds w o ty cs → Holds w' o ty cs
structure Nd (w wr : World) (gf g b n : Nat) (f f2 : FS) (gs : Nat) (a a2 : AS) (gm gd ge : Nat) (A : Option Addr) (c : Nat) : Prop where
  ls : Ls w wr gf g b n f gs a
  df : Df wr gd ge A c f2
  ds : Ds wr gm a2
  le : (gf ≤ gd ∧ g ≤ gd ∧ gs ≤ gd ∧ gm ≤ gd) ∧ w.heap.size ≤ ge ∧ w.heap.size ≤ gm
section
variable {w wr w' : World} {gf g b n n' gs gm gd ge : Nat} {f f2 f' : FS} {a a2 a' : AS} {A : Option Addr} {c : Nat}
theorem Nd.below (h : Nd w wr gf g b n f f2 gs a a2 gm gd ge A c) (hb : Below wr.heap.size wr w') : Nd w w' gf g b n f f2 gs a a2 gm gd ge A c := ⟨h.ls.below hb, h.df.below hb, h.ds.below hb, h.le⟩
theorem Nd.alloc (h : Nd w wr gf g b n f f2 gs a a2 gm gd ge A c) (o : Obj) : Nd w (wr.alloc o) gf g b n f f2 gs a a2 gm gd ge A c := h.below (below_alloc _ _)
theorem Nd.drewN (h : Nd w wr gf g b n f f2 gs a a2 gm gd ge A c) (m : Nat) : Nd w (wr.drewN m) gf g b n f f2 gs a a2 gm gd ge A c := h.below (below_drewN (Below.refl _ _) m)
theorem keep_below (hb : Below wr.heap.size wr w') : KeepAll wr w' := fun o ty cs _ h => h.below hb h.lt
/-- The document's node stays where something else is written. -/
theorem Df.stay {S : Nat → Prop} (hD : Df wr gd ge A c f) (hc : Chg S wr w') (h1 : ¬ S gd) (h2 : ¬ S ge) (h3 : ∀ k, S k → k ≤ gd ∨ ∀ o, wr.cell? ⟨k, o, none⟩ = none) : Df w' gd ge A c f := by
  refine ⟨hD.lt, hD.holds.chg hc h1, hD.row.chg' hc (fun hn b0 off e hk => ?_), hD.node.chg hc h2⟩
  obtain ⟨b1, off1, e1, hB, hb, hcell⟩ := hD.row.cell hn
  rw [e] at e1
  cases e1
  rcases h3 _ hk with e2 | e2
  · omega
  · have hl : 0 < (trs f.L).length := by rw [trs_len]; omega
    have hz := hcell 0 _ (List.getElem?_eq_getElem hl)
    rw [e2] at hz
    cases hz
theorem Ds.far1 (h : Ds wr gm a2) (hF : Fo wr n gf g b n' f) : ¬ fpart gf g b gm := by
  obtain ⟨_, _, _, _, _, _, h1, _⟩ := h
  exact hF.far h1 (by constructor <;> decide)
/-- The program's node made a step. -/
theorem Nd.hear1 (h : Nd w wr gf g b n f f2 gs a a2 gm gd ge A c) (hg : FGoes w.heap.size gf g b n' f' wr w') (hI : FInv f') : ∃ b', Nd w w' gf g b' n' f' f2 gs a a2 gm gd ge A c ∧ KeepAll wr w' := by
  obtain ⟨b', hL, hc⟩ := h.ls.hear hg hI
  obtain ⟨cs, hh, _⟩ := h.df.node
  have hle := h.le
  refine ⟨b', ⟨hL, h.df.stay hc (h.ls.fo.far h.df.holds (by constructor <;> decide)) (h.ls.fo.far hh (by constructor <;> decide)) (fun k hk => ?_), h.ds.chg hc (Ds.far1 h.ds h.ls.fo), hle⟩, fun o ty cs' hT hO => h.ls.keep1 hO ⟨hT.1, hT.2.1⟩ hc⟩
  rcases hk with e | e | e
  · exact .inl (by omega)
  · exact .inl (by omega)
  · refine .inr (fun o => ?_)
    rw [e]
    exact km_cell h.ls.fo.node.km
/-- The program's source made a step. -/
theorem Nd.go1 (h : Nd w wr gf g b n f f2 gs a a2 gm gd ge A c) (hg : SGoes gs a' wr w') (hA : AInv a') : Nd w w' gf g b n f f2 gs a' a2 gm gd ge A c ∧ KeepAll wr w' := by
  obtain ⟨cs, hh, _⟩ := h.df.node
  have hle := h.le
  refine ⟨⟨h.ls.go hg hA, h.df.stay hg.2 (h.df.holds.apart h.ls.src (by decide)) (hh.apart h.ls.src (by decide)) (fun k hk => .inl (by omega)), h.ds.chg hg.2 (fun e => ?_), hle⟩, fun o ty cs' hT hO => h.ls.keep2 hO hT.2.2.1 hg⟩
  exact h.ds.apart h.ls.src (by decide) e.symm
/-- The document's node made a step. -/
theorem Nd.hear2 (h : Nd w wr gf g b n f f2 gs a a2 gm gd ge A c) (hg : DGoes gd ge f' wr w') : ∃ A' c', Nd w w' gf g b n f f' gs a a2 gm gd ge A' c' ∧ KeepAll wr w' := by
  obtain ⟨A', c', hD, hc⟩ := hg
  obtain ⟨cs, hh, _⟩ := h.df.node
  obtain ⟨K, hK⟩ := h.ls.fo.tab
  have hle := h.le
  have hlt := h.df.lt
  have n1 : ¬ fpart gf g b ge := h.ls.fo.far hh (by constructor <;> decide)
  have n2 : ¬ fpart gf g b gd := h.ls.fo.far h.df.holds (by constructor <;> decide)
  have n3 : gs ≠ gd := Holds.apart h.ls.src h.df.holds (by decide)
  have n4 : gs ≠ ge := Holds.apart h.ls.src hh (by decide)
  have n5 : gd ≠ gm := h.ds.apart h.df.holds (by decide)
  have n6 : ge ≠ gm := h.ds.apart hh (by decide)
  refine ⟨A', c', ⟨⟨Below.chg h.ls.law hc h.ls.law.size (fun k hk => by rcases hk with e | e <;> omega), h.ls.fo.chg hc (fun k hk e => ?_), h.ls.inv, h.ls.src.chg hc (fun e => by rcases e with e | e <;> contradiction), h.ls.new, h.ls.ainv⟩, hD, h.ds.chg hc (fun e => by rcases e with e | e <;> exact absurd e.symm ‹_›), hle⟩, fun o ty cs' hT hO => ?_⟩
  · rcases e with e | e
    · exact n2 (e ▸ hk)
    · exact n1 (e ▸ hk)
  · have k1 : o ≠ gd := hO.apart h.df.holds hT.2.2.2.1
    have k2 : o ≠ ge := hO.apart hh hT.2.2.2.2.1
    exact hO.chg hc (fun e => by rcases e with e | e <;> contradiction)
/-- The document's source made a step. -/
theorem Nd.go2 (h : Nd w wr gf g b n f f2 gs a a2 gm gd ge A c) (hg : DsGoes gm a' wr w') : Nd w w' gf g b n f f2 gs a a' gm gd ge A c ∧ KeepAll wr w' := by
  obtain ⟨cs, hh, _⟩ := h.df.node
  have hle := h.le
  have n1 := Ds.far1 h.ds h.ls.fo
  refine ⟨⟨⟨Below.chg h.ls.law hg.2 h.ls.law.size (fun k hk => by omega), h.ls.fo.chg hg.2 (fun k hk e => n1 (e ▸ hk)), h.ls.inv, h.ls.src.chg hg.2 (fun e => h.ds.apart h.ls.src (by decide) e), h.ls.new, h.ls.ainv⟩, h.df.stay hg.2 (fun e => h.ds.apart h.df.holds (by decide) e) (fun e => h.ds.apart hh (by decide) e) (fun k hk => .inl (by omega)), hg.1, hle⟩, fun o ty cs' hT hO => hO.chg hg.2 (fun e => h.ds.apart hO hT.2.2.2.2.2 e)⟩
end
end Go.Proofs.YtgmeakcfiaopcaaGreat

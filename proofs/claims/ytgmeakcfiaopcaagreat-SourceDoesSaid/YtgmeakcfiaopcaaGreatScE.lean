/- The stage's laws: a flood and a source side by side; the law's own rules; what the document tells. -/
import Derived.Test.YtgmeakcfiaopcaaGreatScD
import Derived.Test.YtgmeakcfiaopcaaGreatFlF
import Derived.Test.YtgmeakcfiaopcaaGreatFlG
import Derived.Test.YtgmeakcfiaopcaaGreatBunT
namespace Go.Proofs.YtgmeakcfiaopcaaGreat
open Go.RowKit
set_option linter.unusedVariables false
set_option linter.unusedSimpArgs false

theorem lrules_any (w : World) (a b c d : Int) : Calls Tryz.prog 8 #[.agg #[.int .i64 a, .int .i64 b, .int .i64 c, .int .i64 d]] w fun e w' => e = .returned (.agg #[.int .i64 a, .int .i64 b, .int .i64 c, .int .i64 d]) ∧ Below w.heap.size w w' := by
  go_enter Tryz.func8, Tryz.ntmps8
  go_wp2
  have hb1 := below_alloc w (.cells #[.int .i64 a, .int .i64 b, .int .i64 c, .int .i64 d] 23)
  refine bodyPost_ret (results_cell_row rfl _ _ (w.heap.size + 1) 37 _ (0, 0) _ rfl (by have := heap_alloc_new (w.alloc (.cells #[.int .i64 a, .int .i64 b, .int .i64 c, .int .i64 d] 23)) (.cells #[.int .i64 a, .int .i64 b, .int .i64 c, .int .i64 d] 37); simpa using this) Tryz.underlying37 rfl (by kernel_rfl)) rfl ?_
  exact ⟨rfl, hb1.alloc hb1.size _⟩
section
variable {w wr w' : World} {B gf g b n n' gs : Nat} {f f' : FS} {a a' : AS}
/-- A flood and a source, younger than the law's begin. -/
structure Ls (w wr : World) (gf g b n : Nat) (f : FS) (gs : Nat) (a : AS) : Prop where
  law : Below w.heap.size w wr
  fo : Fo wr w.heap.size gf g b n f
  inv : FInv f
  src : Sq wr gs a
  new : w.heap.size ≤ gs
  ainv : AInv a
theorem Ls.low (h : Ls w wr gf g b n f gs a) : ∀ k, fpart gf g b k → w.heap.size ≤ k := fun k hk => by
  have h1 := h.fo.newer
  have h2 := h.fo.node.newer
  rcases hk with rfl | rfl | rfl
  · exact h1
  · exact h2.1
  · exact h2.2
/-- A block of another type is none of the flood's. -/
theorem Fo.far (h : Fo wr B gf g b n f) {o : Nat} {ty : TypeId} {cs : Array Value} (HO : Holds wr o ty cs) (hT : ty ≠ 89 ∧ ty ≠ 120) : ¬ fpart gf g b o := fun k => by
  obtain ⟨K, hK⟩ := h.tab
  have h1 : o ≠ gf := HO.apart hK.holds hT.1
  have h2 : o ≠ g := HO.apart h.node.holds hT.2
  have h3 : o ≠ b := h.node.km.apart HO
  rcases k with e | e | e <;> contradiction
theorem Ls.apart (h : Ls w wr gf g b n f gs a) : ¬ fpart gf g b gs := h.fo.far h.src (by constructor <;> decide)
theorem Ls.below (h : Ls w wr gf g b n f gs a) (hb : Below wr.heap.size wr w') : Ls w w' gf g b n f gs a :=
  ⟨h.law.trans (hb.mono h.law.size), h.fo.below hb, h.inv, h.src.below hb (Holds.lt h.src), h.new, h.ainv⟩
theorem Ls.alloc (h : Ls w wr gf g b n f gs a) (o : Obj) : Ls w (wr.alloc o) gf g b n f gs a := h.below (below_alloc _ _)
theorem Ls.drewN (h : Ls w wr gf g b n f gs a) (m : Nat) : Ls w (wr.drewN m) gf g b n f gs a := h.below (below_drewN (Below.refl _ _) m)
theorem Ls.drew (h : Ls w wr gf g b n f gs a) : Ls w wr.drew gf g b n f gs a := h.drewN 1
theorem Ls.mono (h : Ls w wr gf g b n f gs a) (hn : n ≤ n') : Ls w wr gf g b n' f gs a := ⟨h.law, h.fo.mono hn, h.inv, h.src, h.new, h.ainv⟩
/-- A step of the flood. -/
theorem Ls.hear (h : Ls w wr gf g b n f gs a) (hg : FGoes w.heap.size gf g b n' f' wr w') (hI : FInv f') : ∃ b', Ls w w' gf g b' n' f' gs a ∧ Chg (fpart gf g b) wr w' := by
  obtain ⟨b', h1, h2, h3⟩ := hg
  exact ⟨b', ⟨Below.chg h.law h2 h.law.size (fun k hk => h.low k hk), h1, hI, h.src.chg h2 h.apart, h.new, h.ainv⟩, h2⟩
/-- A step of the source. -/
theorem Ls.go (h : Ls w wr gf g b n f gs a) (hg : SGoes gs a' wr w') (hA : AInv a') : Ls w w' gf g b n f gs a' :=
  ⟨Below.chg h.law hg.2 h.law.size (fun k hk => by have := h.new; omega), h.fo.chg hg.2 (fun k hk e => by cases e; exact h.apart hk), h.inv, hg.1, h.new, hA⟩
/-- Another block stays, whatever of the two is written. -/
theorem Ls.keep1 (h : Ls w wr gf g b n f gs a) {o : Nat} {ty : TypeId} {cs : Array Value} (HO : Holds wr o ty cs) (hT : ty ≠ 89 ∧ ty ≠ 120) (hc : Chg (fpart gf g b) wr w') : Holds w' o ty cs := HO.chg hc (h.fo.far HO hT)
theorem Ls.keep2 (h : Ls w wr gf g b n f gs a) {o : Nat} {ty : TypeId} {cs : Array Value} (HO : Holds wr o ty cs) (hT : ty ≠ 79) (hg : SGoes gs a' wr w') : Holds w' o ty cs := HO.chg hg.2 (fun e => HO.apart h.src hT e)
end
/-- What Time answers with what was asked, and without. -/
theorem prefer_ways (f : FS) (a : AS) (lim lo : Int) :
    (∃ t hp r m, synB f = true ∧ minB f = true ∧ f.s.root = r ∧ STime f a lo t hp r m 1 0 ∧ STime f (newA lim) lo t hp r m 1 0) ∨
    (∃ t hp r m, synB f = true ∧ minB f = false ∧ f.s.root = r ∧ STime f a lo t hp r m 2 0 ∧ STime f (newA lim) lo t hp r m 2 0) ∨
    (∃ v : Int, synB f = true ∧ (v == 0) = false ∧ STime f a lo 0 0 0 0 0 v ∧ STime f (newA lim) lo 0 0 0 0 0 v) ∨
    (synB f = false ∧ afreshB a = false ∧ STime f a lo 0 0 0 0 0 9 ∧ STime f (newA lim) lo 0 0 0 0 0 9) ∨
    (synB f = false ∧ afreshB a = true ∧ STime f a lo 0 0 0 0 0 8 ∧ STime f (newA lim) lo 0 0 0 0 0 9) ∨
    (∃ t hp r m, synB f = false ∧ afreshB a = true ∧ STime f a lo t hp r m 3 0 ∧ STime f (newA lim) lo 0 0 0 0 0 9) := by
  have hn : afreshB (newA lim) = false := rfl
  cases h1 : synB f with
  | true =>
    obtain ⟨t, hp, v, ht⟩ := tells_is f lo
    by_cases hv : v = 0
    · subst hv
      cases hm : minB f with
      | true => exact .inl ⟨t, hp, f.s.root, (saidV f.s).1, rfl, rfl, rfl, .inl ⟨h1, t, hp, 0, ht, .inl ⟨rfl, rfl, rfl, rfl, rfl, by rw [hm]; rfl, rfl⟩⟩, .inl ⟨h1, t, hp, 0, ht, .inl ⟨rfl, rfl, rfl, rfl, rfl, by rw [hm]; rfl, rfl⟩⟩⟩
      | false => exact .inr (.inl ⟨t, hp, f.s.root, (saidV f.s).1, rfl, rfl, rfl, .inl ⟨h1, t, hp, 0, ht, .inl ⟨rfl, rfl, rfl, rfl, rfl, by rw [hm]; rfl, rfl⟩⟩, .inl ⟨h1, t, hp, 0, ht, .inl ⟨rfl, rfl, rfl, rfl, rfl, by rw [hm]; rfl, rfl⟩⟩⟩)
    · exact .inr (.inr (.inl ⟨v, rfl, by simpa using hv, .inl ⟨h1, t, hp, v, ht, .inr ⟨hv, rfl, rfl, rfl, rfl, rfl, rfl⟩⟩, .inl ⟨h1, t, hp, v, ht, .inr ⟨hv, rfl, rfl, rfl, rfl, rfl, rfl⟩⟩⟩))
  | false =>
    have hz : STime f (newA lim) lo 0 0 0 0 0 9 := .inr (.inl ⟨h1, hn, rfl, rfl, rfl, rfl, rfl, rfl⟩)
    cases h2 : afreshB a with
    | false => exact .inr (.inr (.inr (.inl ⟨rfl, rfl, .inr (.inl ⟨h1, h2, rfl, rfl, rfl, rfl, rfl, rfl⟩), hz⟩)))
    | true =>
      cases h3 : timeB lo with
      | false => exact .inr (.inr (.inr (.inr (.inl ⟨rfl, rfl, .inr (.inr (.inl ⟨h1, h2, .inl h3, rfl, rfl, rfl, rfl, rfl, rfl⟩)), hz⟩))))
      | true =>
        cases h4 : timeB (lo + a.off) with
        | false => exact .inr (.inr (.inr (.inr (.inl ⟨rfl, rfl, .inr (.inr (.inl ⟨h1, h2, .inr ⟨h3, h4⟩, rfl, rfl, rfl, rfl, rfl, rfl⟩)), hz⟩))))
        | true => exact .inr (.inr (.inr (.inr (.inr ⟨_, _, _, _, rfl, rfl, .inr (.inr (.inr ⟨h1, h2, h3, h4, rfl, rfl, rfl, rfl, rfl, rfl⟩)), hz⟩))))
/-- A law's entry, and whose it is, boxed as it begins. -/
structure Eb (w : World) (e u : Array Value) (W : World) : Prop where
  ent : Holds W w.heap.size 49 e
  who : Holds W (w.heap.size + 1) 41 u
  law : Below w.heap.size w W
theorem Eb.start (w : World) (e u : Array Value) : Eb w e u ((w.alloc (.cells e 49)).alloc (.cells u 41)) := by
  have h2 := Holds.new (w.alloc (.cells e 49)) 41 u
  rw [size_alloc] at h2
  exact ⟨(Holds.new w _ _).alloc _, h2, ((Below.refl _ _).alloc (Nat.le_refl _) _).alloc (by simp) _⟩
theorem Eb.below {w W W' : World} {e u : Array Value} (h : Eb w e u W) (hb : Below W.heap.size W W') : Eb w e u W' := ⟨h.ent.below hb h.ent.lt, h.who.below hb h.who.lt, h.law.trans (hb.mono h.law.size)⟩
set_option maxHeartbeats 2000000 in
set_option maxRecDepth 100000 in
theorem alive_yes (w : World) : Calls Tryz.prog 4 #[] w fun e w' => e = .returned (.bool true) ∧ Below w.heap.size w w' := by
  have hgd : fgoodB 5 9 0 1 0 = true := by decide
  have hnew := fun W => fnew_yes W 5 9 0 1 0 hgd
  have hI0 : FInv (newF 5 9 0 1 0 0) := FInv.new hgd ⟨by decide, by decide⟩
  have hA0 : AInv (newA 2) := AInv.new (by decide)
  have hA1 := hA0.put 100 50 2 3 7
  have hs : STime (newF 5 9 0 1 0 0) (putA (newA 2) 100 50 2 3 7) 110 160 2 3 7 3 0 := .inr (.inr (.inr ⟨by decide, by decide, by decide, by decide, by decide, by decide, by decide, by decide, rfl, rfl⟩))
  have hv : putV 100 50 2 3 = 0 := by decide
  obtain ⟨f0, hf0⟩ : ∃ f0, newF 5 9 0 1 0 0 = f0 := ⟨_, rfl⟩
  rw [hf0] at hI0 hs
  simp only [hf0] at hnew
  have hput := fun W gs (h : Sq W gs (newA 2)) => sput_any W gs (newA 2) h 100 50 2 3 7
  rw [hv] at hput
  have HN := Lib.hid hnew
  have HP := Lib.hid hput
  have HS := Lib.hid hs
  have HI := Lib.hid hI0
  have HA0 := Lib.hid hA0
  have HA1 := Lib.hid hA1
  have HB0 := Lib.hid (Below.refl w.heap.size w)
  clear hnew hI0 hA0 hA1 hs hv hf0 hput hgd
  go_enter Tryz.func4, Tryz.ntmps4
  go_wp2_with (first
    | (go_at_call 6; refine (snew_yes _ 2 (by decide)).mono ?_; rintro e w1 ⟨rfl, hS1, hb1⟩; have HS1 := Lib.hid hS1; have HB1 := Lib.hid (HB0.out.trans (hb1.mono HB0.out.size)); clear hS1 hb1)
    | (go_at_call 7; refine (HN.out _).mono ?_; rintro e w2 ⟨gf, g, b, rfl, hF2, hb2⟩; have HL2 : Hid (Ls w w2 gf g b 0 f0 w.heap.size (newA 2)) := Lib.hid ⟨HB1.out.trans (hb2.mono HB1.out.size), hF2.at HB1.out.size, HI.out, HS1.out.below hb2 (Holds.lt HS1.out), Nat.le_refl _, HA0.out⟩; have hp := HP.out _ _ HL2.out.src; clear hF2 hb2)
    | (go_at_call 13; refine hp.mono ?_; rintro e w3 ⟨rfl, hg3⟩; have HL3 := Lib.hid (HL2.out.go hg3 HA1.out); have ht := stell_any _ _ _ _ _ _ _ _ _ HL3.out.fo HL3.out.src HL3.out.inv HL3.out.ainv 110 160 2 3 7 3 0 HS.out; clear hg3 hp)
    | (go_at_call 11; refine ht.mono ?_; rintro e w4 ⟨rfl, hb4⟩; have HL4 := Lib.hid (HL3.out.below hb4); clear hb4 ht))
  go_ret
  exact ⟨rfl, (HL4.out.alloc _).law⟩
end Go.Proofs.YtgmeakcfiaopcaaGreat

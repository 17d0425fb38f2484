/- What Encode answers, of frames that can be and of others. -/
import Derived.Test.YtbdlpkkgfhknkaaFrmW
namespace Go.Proofs.Ytbdlpkkgfhknkaa
open Go.RowKit
set_option linter.unusedSimpArgs false

theorem encode_pick_any (B g : Nat) (k n : Int) (zs : List Int) (w : World) (h : Pens w B g zs) (hB : B ≤ w.heap.size) (hk : Kinds k) (hn : 0 ≤ n) (hf : Fits n) (hl : zs.length ≤ 65536) :
    Calls Try.prog 21 #[.int .i64 k, .int .i64 n, .pointer (some ⟨g, 0, none⟩)] w fun e w' => e = .returned (.int .i64 n) ∧ Pens w' B g (zs ++ putB (sizeF k) n) ∧ Below B w w' ∧ KeepsFrames w w' := by
  obtain ⟨n1, n2⟩ := hf
  have hs := size_any k w hk
  have hz := size_le k
  have hp := pen_keeps B g (sizeF k : Int) n zs w h hB ⟨by omega, by omega⟩ ⟨hn, by omega⟩ hl
  rw [show (min (sizeF k : Int) 8).toNat = sizeF k by omega] at hp
  obtain ⟨M, hM⟩ : ∃ M : Int, (sizeF k : Int) = M := ⟨_, rfl⟩
  rw [hM] at hs hp
  clear hM hz h
  go_enter Try.func21, Try.ntmps21
  go_wp2_with (first
    | (go_at_call 23; refine hs.mono ?_; rintro e w' ⟨rfl, rfl⟩)
    | (go_at_call 22; refine hp.mono ?_; rintro e w1 ⟨⟨rfl, hp1, hb1⟩, hk1⟩))
  go_ret
  exact ⟨rfl, hp1, hb1, hk1⟩

section
variable {w w' : World} {B g : Nat} {zs : List Int}
theorem Pens.drew (h : Pens w B g zs) : Pens w.drew B g zs := by
  obtain ⟨h1, h2, A, c, hh, ho⟩ := h
  exact ⟨h1, h2, A, c, hh, ho.drew⟩
theorem Pens.alloc (h : Pens w B g zs) (o : Obj) : Pens (w.alloc o) B g zs := by
  obtain ⟨h1, h2, A, c, hh, ho⟩ := h
  exact ⟨h1, h2, A, c, hh.alloc o, ho.alloc o⟩
theorem Pens.far (h : Pens w B g zs) {b i : Nat} {t : TypeId} {cs : Array Value} (ht : frameType t) (hh' : Holds w b t cs) (u : Value) : Pens (w.setCell ⟨b, i, none⟩ u) B g zs := by
  obtain ⟨h1, h2, A, c, hh, ho⟩ := h
  exact ⟨h1, h2, A, c, hh.far (hh.apart hh' (ne_frame pen_plain ht)) u, ho.kept (row := some b) (grown_set w b i u) (.inr (hh'.own_apart ho (ne_frame byte_plain ht)))⟩
end
/-- Encode's function value. -/
def penP (w0 : World) (g : Nat) : Picks (List Int) where
  fn := 21
  caps := #[.pointer (some ⟨g, 0, none⟩)]
  base := w0.heap.size
  inv zs w := Below w0.heap.size w0 w ∧ Pens w w0.heap.size g zs
  next zs k n := zs ++ putB (sizeF k) n
  tells _ _ n := n
  good zs k n := Kinds k ∧ 0 ≤ n ∧ Fits n ∧ zs.length ≤ 65536
theorem penP_right (w0 : World) (g : Nat) : (penP w0 g).Right where
  enters := enters_of Try.func21 (by kernel_rfl) rfl
  call zs k n w h hg := (encode_pick_any w0.heap.size g k n zs w h.2 h.1.size hg.1 hg.2.1 hg.2.2.1 hg.2.2.2).mono fun e w' ⟨he, hp, hb, hk⟩ => ⟨he, ⟨h.1.trans hb, hp⟩, hk⟩
  drew s w h := ⟨h.1.drew, h.2.drew⟩
  alloc s w o h := ⟨h.1.alloc h.1.size o, h.2.alloc o⟩
  size s w h := h.1.size
  store s w b i u t cs h hb ht _ hh := ⟨h.1.setCell (p := ⟨b, i, none⟩) hb u, h.2.far ht hh u⟩
theorem fold_put (qs : List (Int × Int)) (zs : List Int) : qs.foldl (fun s q => s ++ putB (sizeF q.1) q.2) zs = zs ++ bytesF qs := by
  induction qs generalizing zs with
  | nil => simp [bytesF]
  | cons q qs ih => rw [List.foldl_cons, ih]; simp [bytesF]
theorem bytesF_le (l : List (Int × Int)) : (bytesF l).length ≤ 8 * l.length := by
  induction l with
  | nil => simp [bytesF]
  | cons x l ih => have := size_le x.1; simp [bytesF, put_length] at ih ⊢; omega
theorem put_kind (f : Fr) : putB (sizeF 0) f.kind = [f.kind] := by cases f <;> rfl
theorem chain_pen (w0 : World) (g : Nat) (f : Fr) (h : f.wf) (hg : f.good = true) : Chain (penP w0 g) [] f.asks (f.kind :: f.nums) f.bytes := by
  have hpos : ∀ q ∈ f.asks, 0 ≤ q.2 := fun q hq => by
    rcases List.mem_cons.1 hq with rfl | hq
    · have := f.kind_range
      show 0 ≤ f.kind
      omega
    · have := List.all_eq_true.1 hg q hq
      simp [okF] at this
      exact this.1
  have := chain_same (penP w0 g) (fun _ _ _ => rfl) f.asks [] fun pre q post e => by
    have hm : q ∈ f.asks := by rw [e]; simp
    refine ⟨asks_kinds f q hm, hpos q hm, asks_fits h q hm, ?_⟩
    show (pre.foldl (fun s q => s ++ putB (sizeF q.1) q.2) []).length ≤ _
    rw [fold_put]
    have h1 := bytesF_le pre
    have h2 := congrArg List.length e
    have h3 : f.asks.length ≤ 9 := by cases f <;> simp [Fr.asks, Fr.fields]
    simp at h1 h2 ⊢
    omega
  have e : f.asks.foldl (fun s q => (penP w0 g).next s q.1 q.2) [] = f.bytes := by
    show f.asks.foldl (fun s q => s ++ putB (sizeF q.1) q.2) [] = _
    rw [fold_put, List.nil_append, Fr.asks]
    show putB (sizeF 0) f.kind ++ bytesF f.fields = _
    rw [put_kind]
    rfl
  rw [e] at this
  exact this

/-- A frame's bytes. -/
def Fr.sealed (f : Fr) : List Int := Go.Proofs.Ytbdlpkkgfhknkaa.sealed f.bytes
def EncYes (w : World) (n : Nat) (zs : List Int) (e : Ending) (w' : World) : Prop :=
  ∃ A c, e = .returned (.tuple #[.slice A n c, .int .i64 0]) ∧ w'.ownsRow w.heap.size 5 1 (.slice A n c) n (zs.map (.int .u8)) ∧ Below w.heap.size w w'
def EncNo (w : World) (e : Ending) (w' : World) : Prop := e = .returned (.tuple #[.slice none 0 0, .int .i64 1]) ∧ Below w.heap.size w w'
theorem bytes_as {B g n : Nat} {zs : List Int} {w : World} (h : Pens w B g zs) (hn : zs.length = n) (hl : n ≤ 65536) :
    Calls Try.prog 25 #[.pointer (some ⟨g, 0, none⟩)] w (GaveRow 5 .u8 w n zs) := by
  subst hn
  exact bytes_any B g zs w h hl
theorem encode_yes (f : Fr) (w : World) (h : f.wf) (hg : f.good = true) : Calls Try.prog 11 #[f.val] w (EncYes w (f.bytes.length + 2) f.sealed) := by
  have h0 := good_any f w h
  rw [hg] at h0
  have hn : f.bytes.length ≤ 62 := by have := lenF_le f.kind; rw [f.bytes_length]; omega
  have hp := fun (W : World) (hb : Below w.heap.size w W) => picked_any (penP w W.heap.size) (penP_right w W.heap.size) [] f.bytes f.kind (W.alloc (.cells #[.slice none 0 0] 64))
    ⟨hb.alloc hb.size _, ⟨hb.size, by simp, none, 0, Holds.new _ _ _, rfl, .inl ⟨rfl, rfl⟩⟩⟩ f f rfl (chain_pen w W.heap.size f h hg) h.marks h.marks
  have HB := Lib.hid f.bytes_wf
  unfold Fr.sealed
  obtain ⟨zs, hzs⟩ : ∃ zs, f.bytes = zs := ⟨_, rfl⟩
  obtain ⟨v, hv⟩ : ∃ v, f.val = v := ⟨_, rfl⟩
  rw [hzs] at HB hn ⊢
  simp only [hzs] at hp
  rw [hv] at h0 ⊢
  simp only [hv] at hp
  clear h hg hzs hv
  obtain ⟨n, hnn⟩ : ∃ n, zs.length = n := ⟨_, rfl⟩
  rw [hnn] at hn ⊢
  have HN := Lib.hid hnn
  clear hnn
  go_enter Try.func11, Try.ntmps11
  go_wp2_with (first
    | (go_at_call 12; refine h0.mono ?_; rintro e w1 ⟨rfl, hb1⟩)
    | (go_at_call 20; refine (hp _ hb1).mono ?_; rintro e w2 ⟨rfl, ⟨hb2, hp2⟩, hk2⟩)
    | (go_at_call 25; refine (bytes_as hp2 HN.out (by omega)).mono ?_; rintro e w3 ⟨A3, c3, rfl, ho3, hb3⟩)
    | (go_at_call 24; refine (seal_any A3 n c3 zs _ (IntRow.of_own ho3 HB.out) (by omega)).mono ?_; rintro e w4 ⟨A4, c4, rfl, ho4, hb4⟩))
  go_ret2
  have hb23 := hb2.trans (hb3.mono hb2.size)
  exact ⟨A4, c4, rfl, own_mono ho4 hb23.size, hb23.trans (hb4.mono hb23.size)⟩
theorem encode_no (v : Value) (w : World) (h : Calls Try.prog 12 #[v] w (Told (.bool false) w)) : Calls Try.prog 11 #[v] w (EncNo w) := by
  go_enter Try.func11, Try.ntmps11
  go_wp2_with (go_at_call 12; refine h.mono ?_; rintro e w1 ⟨rfl, hb1⟩)
  go_ret2
  exact ⟨rfl, hb1⟩
end Go.Proofs.Ytbdlpkkgfhknkaa

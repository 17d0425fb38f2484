/- The first call of each law: one frame there and back. Two structs of all fields, alike or not. -/
import Derived.Test.YtbdlpkkgfhknkaaFrmT
import Derived.Laws.StructEq
import Derived.Deep.MidRow
import Derived.Lib.Bytes
namespace Go.Proofs.Ytbdlpkkgfhknkaa
open Go.RowKit
set_option linter.unusedSimpArgs false

theorem encode_sealed (f : Fr) (w : World) (hg : f.good = true) : Calls Try.prog 11 #[f.val] w (EncYes w f.sealed.length f.sealed) := by
  rw [f.sealed_length]
  exact encode_yes f w (Fr.good_wf hg) hg
theorem alive_yes (w : World) : Calls Try.prog 9 #[] w fun e w' => e = .returned (.bool true) ∧ Below w.heap.size w w' := by
  have he := fun W => encode_sealed (.want 5) W (by decide)
  have hd := dec_sealed (.want 5) (by decide)
  obtain ⟨H, L, hs⟩ : ∃ H L, (Fr.want 5).sealed = [3, 5, H, L] := ⟨_, _, rfl⟩
  have hwf := (Fr.want 5).sealed_wf
  rw [hs] at hd hwf
  simp only [hs] at he
  have HW := Lib.hid hwf
  have hdec := fun A c W (hr : IntRow W .u8 A 4 c [3, 5, H, L]) => decode_any A 4 c [3, 5, H, L] W hr
  simp only [hd] at hdec
  have hdec2 : ∀ A c W, IntRow W .u8 A 4 c [3, 5, H, L] → Calls Try.prog 15 #[.slice A 4 c] W fun e w' => e = .returned (.tuple #[.iface 51 (.agg #[.int .i64 5]), .int .i64 0]) ∧ Below W.heap.size W w' := hdec
  clear hdec
  have ht := is_want
  clear hs hwf hd
  go_enter Try.func9, Try.ntmps9
  go_wp2_with (first
    | (go_at_call 11; refine (he _).mono ?_; rintro e w1 ⟨A1, c1, rfl, ho1, hb1⟩; have HR := Lib.hid (IntRow.of_own ho1 HW.out); clear ho1)
    | (go_at_call 15; refine (hdec2 _ _ _ HR.out).mono ?_; rintro e w2 ⟨rfl, hb2⟩; obtain ⟨b, off, rfl, hlt, hcell⟩ := (HR.out.below hb2).cell (by simp); have q0 := hcell 0 (by simp); have q1 := hcell 1 (by simp); simp only [Nat.add_zero, List.getD_cons_zero, List.getD_cons_succ] at q0 q1; have r0 := World.cell?_alloc_lt w2 (.cells #[.int .i64 5] 51) ⟨b, off, none⟩ hlt; have r1 := World.cell?_alloc_lt w2 (.cells #[.int .i64 5] 51) ⟨b, off + 1, none⟩ hlt; rw [q0] at r0; rw [q1] at r1; have hcap := (HR.out.below hb2).cap_le; have hmx := (HR.out.below hb2).max; unfold maxLen at hmx; clear hcell))
  go_ret
  exact ⟨rfl, (hb1.trans (hb2.mono hb1.size)).alloc (Nat.le_trans hb1.size hb2.size) _⟩
theorem eq_same (p : Pl) (W : World) : (binOp .eql 24 p.val p.val).run Try.prog W = .ok (.bool true) W := by
  obtain ⟨a0, a1, a2, a3, a4, a5, a6, a7, a8, a9, a10, a11, a12, a13⟩ := p
  simp only [Pl.val]
  go_simp
theorem neq_same (p : Pl) (W : World) : (binOp .neq 24 p.val p.val).run Try.prog W = .ok (.bool false) W := by
  obtain ⟨a0, a1, a2, a3, a4, a5, a6, a7, a8, a9, a10, a11, a12, a13⟩ := p
  simp only [Pl.val]
  go_simp
theorem eq_other {p q : Pl} (h : p ≠ q) (W : World) : (binOp .eql 24 p.val q.val).run Try.prog W = .ok (.bool false) W := by
  obtain ⟨a0, a1, a2, a3, a4, a5, a6, a7, a8, a9, a10, a11, a12, a13⟩ := p
  obtain ⟨b0, b1, b2, b3, b4, b5, b6, b7, b8, b9, b10, b11, b12, b13⟩ := q
  simp only [Pl.val]
  have H := Lib.hid h
  clear h
  go_simp
  intro h0 h1 h2 h3 h4 h5 h6 h7 h8 h9 h10 h11 h12 h13
  exact H.out (by rw [h0, h1, h2, h3, h4, h5, h6, h7, h8, h9, h10, h11, h12, h13])
/-- The cells of a struct of all fields. -/
theorem plain_cells {w : World} {g : Nat} {a0 a1 a2 a3 a4 a5 a6 a7 a8 a9 a10 a11 a12 a13 : Int} (h : Holds w g 24 #[.int .i64 a0, .int .i64 a1, .int .i64 a2, .int .i64 a3, .int .u16 a4, .int .u16 a5, .int .i64 a6, .int .i64 a7, .int .i64 a8, .int .i64 a9, .int .i64 a10, .int .i64 a11, .int .i64 a12, .int .i64 a13]) :
    w.cell? ⟨g, 0, none⟩ = some (.int .i64 a0) ∧ w.cell? ⟨g, 1, none⟩ = some (.int .i64 a1) ∧ w.cell? ⟨g, 2, none⟩ = some (.int .i64 a2) ∧ w.cell? ⟨g, 3, none⟩ = some (.int .i64 a3) ∧ w.cell? ⟨g, 4, none⟩ = some (.int .u16 a4) ∧ w.cell? ⟨g, 5, none⟩ = some (.int .u16 a5) ∧ w.cell? ⟨g, 6, none⟩ = some (.int .i64 a6) ∧ w.cell? ⟨g, 7, none⟩ = some (.int .i64 a7) ∧ w.cell? ⟨g, 8, none⟩ = some (.int .i64 a8) ∧ w.cell? ⟨g, 9, none⟩ = some (.int .i64 a9) ∧ w.cell? ⟨g, 10, none⟩ = some (.int .i64 a10) ∧ w.cell? ⟨g, 11, none⟩ = some (.int .i64 a11) ∧ w.cell? ⟨g, 12, none⟩ = some (.int .i64 a12) ∧ w.cell? ⟨g, 13, none⟩ = some (.int .i64 a13) :=
  ⟨h.cell 0, h.cell 1, h.cell 2, h.cell 3, h.cell 4, h.cell 5, h.cell 6, h.cell 7, h.cell 8, h.cell 9, h.cell 10, h.cell 11, h.cell 12, h.cell 13⟩
theorem below_on {a b c : World} (h : Below a.heap.size a b) (k : Below b.heap.size b c) : Below a.heap.size a c := h.trans (k.mono h.size)
theorem dec_none {zs : List Int} (h : dec zs = (none, 3) ∨ dec zs = (none, 4) ∨ dec zs = (none, 5)) : ∃ E : Int, dec zs = (none, E) ∧ 3 ≤ E ∧ E ≤ 5 := by
  rcases h with h | h | h
  · exact ⟨3, h, by omega, by omega⟩
  · exact ⟨4, h, by omega, by omega⟩
  · exact ⟨5, h, by omega, by omega⟩
theorem plain_range {w : World} {g : Nat} {a0 a1 a2 a3 a4 a5 a6 a7 a8 a9 a10 a11 a12 a13 : Int} (h : Holds w g 24 #[.int .i64 a0, .int .i64 a1, .int .i64 a2, .int .i64 a3, .int .u16 a4, .int .u16 a5, .int .i64 a6, .int .i64 a7, .int .i64 a8, .int .i64 a9, .int .i64 a10, .int .i64 a11, .int .i64 a12, .int .i64 a13]) :
    w.rangeAt g 0 [.int .i64 a0, .int .i64 a1, .int .i64 a2, .int .i64 a3, .int .u16 a4, .int .u16 a5, .int .i64 a6, .int .i64 a7, .int .i64 a8, .int .i64 a9, .int .i64 a10, .int .i64 a11, .int .i64 a12, .int .i64 a13] := fun j v hv => by
  rw [Nat.zero_add, h.cell]
  simpa using hv
/-- A frame that can't be encoded isn't. -/
theorem enc_no (p : Pl) (hp : p.wf) (h : ¬ ∃ f, p.fr = some f ∧ f.good = true) (W : World) : Calls Try.prog 11 #[frVal p.fr] W (EncNo W) := by
  refine encode_no _ W ?_
  cases hf : p.fr with
  | none => exact good_nil W
  | some f =>
    have hg : f.good = false := by
      rcases hg : f.good with _ | _
      · rfl
      · exact absurd ⟨f, hf, hg⟩ h
    rw [← hg]
    exact good_any f W (hp.fr hf)
/-- Can a frame be, as the document says it? -/
def Pl.canBe (p : Pl) : Bool := match p.fr with
  | some f => f.good
  | none => false
theorem rgood_any (p : Pl) (w : World) (hp : p.wf) : Calls Try.prog 13 #[p.val] w (Told (.bool p.canBe) w) := by
  unfold Pl.canBe
  cases hf : p.fr with
  | none => exact rgood_none p w hf
  | some f => exact rgood_fr p f w hp hf
theorem canBe_yes {p : Pl} {f : Fr} (h : p.fr = some f) (hg : f.good = true) : p.canBe = true := by
  unfold Pl.canBe
  rw [h]
  exact hg
theorem canBe_no {p : Pl} (h : ¬ ∃ f, p.fr = some f ∧ f.good = true) : p.canBe = false := by
  unfold Pl.canBe
  cases hf : p.fr with
  | none => rfl
  | some f =>
    rcases hg : f.good with _ | _
    · exact hg
    · exact absurd ⟨f, hf, hg⟩ h
theorem bytes_inj : ∀ {xs ys : List Int}, (∀ x ∈ xs, F8 x) → (∀ y ∈ ys, F8 y) → xs.map (fun n => UInt8.ofNat n.toNat) = ys.map (fun n => UInt8.ofNat n.toNat) → xs = ys
  | [], [], _, _, _ => rfl
  | [], _ :: _, _, _, h => by simp at h
  | _ :: _, [], _, _, h => by simp at h
  | x :: xs, y :: ys, hx, hy, h => by
    simp only [List.map_cons, List.cons.injEq] at h
    obtain ⟨x1, x2⟩ := hx x (List.mem_cons_self ..)
    obtain ⟨y1, y2⟩ := hy y (List.mem_cons_self ..)
    have e := congrArg UInt8.toNat h.1
    simp only [UInt8.toNat_ofNat'] at e
    have hxy : x = y := by omega
    rw [hxy, bytes_inj (fun z hz => hx z (List.mem_cons_of_mem _ hz)) (fun z hz => hy z (List.mem_cons_of_mem _ hz)) h.2]
theorem str_inj {xs ys : List Int} (hx : ∀ x ∈ xs, F8 x) (hy : ∀ y ∈ ys, F8 y) (h : (strOfNums xs).toList = (strOfNums ys).toList) : xs = ys := by
  rw [Lib.strOfNums_toList, Lib.strOfNums_toList] at h
  exact bytes_inj hx hy h
theorem str_other {xs ys : List Int} (hx : ∀ x ∈ xs, F8 x) (hy : ∀ y ∈ ys, F8 y) (h : xs ≠ ys) : ((strOfNums xs).toList == (strOfNums ys).toList) = false := by
  simp only [beq_eq_false_iff_ne, ne_eq]
  exact fun e => h (str_inj hx hy e)
theorem Fr.sealed_cons (f : Fr) : ∃ rest, f.sealed = f.kind :: rest := ⟨_, rfl⟩
theorem Fr.sealed_size (f : Fr) : f.sealed.length = lenF (whats f.kind) + 3 ∧ f.sealed.length ≤ 64 := by
  have h1 := f.sealed_length
  have h2 := f.bytes_length
  have h3 := lenF_le f.kind
  omega
/-- No beginning of a frame's bytes is one. -/
theorem dec_cut (f : Fr) (n : Nat) (h : n < f.sealed.length) : dec (f.sealed.take n) = (none, 3) := by
  obtain ⟨h1, h2⟩ := f.sealed_size
  obtain ⟨rest, hr⟩ := f.sealed_cons
  have hl : (f.sealed.take n).length = n := by rw [List.length_take]; omega
  rw [hr] at hl ⊢
  rcases n with _ | n
  · rfl
  · rw [List.take_succ_cons] at hl ⊢
    rw [dec_cons (by simp at hl ⊢; omega), if_pos f.kind_range, decK_len (by rw [hl]; omega)]
/-- Nor are they with bytes behind them. -/
theorem dec_more (f : Fr) (more : List Int) (h : more ≠ []) (hl : f.sealed.length + more.length ≤ 64) : dec (f.sealed ++ more) = (none, 3) := by
  obtain ⟨h1, h2⟩ := f.sealed_size
  obtain ⟨rest, hr⟩ := f.sealed_cons
  have hm : 0 < more.length := by
    rcases more with _ | _
    · exact absurd rfl h
    · simp
  have hl2 : (f.sealed ++ more).length = f.sealed.length + more.length := by simp
  rw [hr] at hl2 h1 hl ⊢
  rw [List.cons_append] at hl2 ⊢
  rw [dec_cons (by simp at hl2 hl ⊢; omega), if_pos f.kind_range, decK_len (by rw [hl2]; simp at h1 ⊢; omega)]
theorem dec_much (f : Fr) (more : List Int) (hl : 64 < f.sealed.length + more.length) : dec (f.sealed ++ more) = (none, 5) := dec_long (by simpa using hl)
end Go.Proofs.Ytbdlpkkgfhknkaa

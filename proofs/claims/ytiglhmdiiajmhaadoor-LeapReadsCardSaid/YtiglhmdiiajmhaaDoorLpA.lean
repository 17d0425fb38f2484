/- Package leap: the reader, how it lies, how it gives up, how it goes on. -/
import Derived.Test.YtiglhmdiiajmhaaDoorLpM
import Derived.Test.YtiglhmdiiajmhaaDoorPs
import Derived.Test.YtiglhmdiiajmhaaDoorBox
import Derived.Test.YtiglhmdiiajmhaaDoorTurn
import Derived.WalkLawsBesides
import Derived.BigQuiet
import Derived.Deep.CutBlock
namespace Go.Proofs.YtiglhmdiiajmhaaDoor
open Go.RowKit
set_option linter.unusedSimpArgs false
set_option linter.unusedVariables false

/-- What is thrown where reading is given up. -/
def faultV (line code : Int) : List PanicEntry := [{ v := .iface 61 (.agg #[.int .i64 line, .int .i64 code]), recovered := false }]
theorem must_yes (g : Nat) (c : Int) (w : World) : Calls Tryd.prog 51 #[.pointer (some ⟨g, 0, none⟩), .bool true, .int .i64 c] w fun e w' => e = .returned (.tuple #[]) ∧ w' = w := by
  go_enter Tryd.func51, Tryd.ntmps51
  go_wp2
  go_end0
  exact ⟨rfl, rfl⟩
theorem must_no (g : Nat) (c l : Int) (w : World) (hc : w.cell? ⟨g, 1, none⟩ = some (.int .i64 l)) :
    Calls Tryd.prog 51 #[.pointer (some ⟨g, 0, none⟩), .bool false, .int .i64 c] w fun e w' => e = .panicked (faultV l c) ∧ w' = w := by
  go_enter Tryd.func51, Tryd.ntmps51
  go_wp2
  exact ⟨rfl, rfl, rfl⟩

/-- The reader at block g: its lines, the number of the one that it is at, that one's words. -/
structure Rd (w : World) (B g : Nat) (L : List ByteArray) (k : Nat) (ws : List ByteArray) : Prop where
  base : B ≤ g
  le : k ≤ L.length
  few : L.length ≤ 16385
  short : ∀ s ∈ L, s.size ≤ 16384
  lies : ∃ A c A2 c2, Holds w g 64 #[.slice A L.length c, .int .i64 (k : Int), .slice A2 ws.length c2] ∧ w.ownsRow B 9 1 (.slice A L.length c) L.length (sts L) ∧ w.ownsRow B 9 1 (.slice A2 ws.length c2) ws.length (sts ws)
/-- The table at block g, under way or not. -/
structure Tl (w : World) (B g : Nat) (T : TB) : Prop where
  base : B ≤ g
  lies : ∃ A c, Holds w g 54 #[.int .i64 T.st, .int .i64 T.ah, .int .i64 T.en, .slice A T.lp.length c] ∧ w.ownsRow B 51 2 (.slice A T.lp.length c) T.lp.length (prs T.lp)
section
variable {w w' : World} {B g : Nat} {L ws : List ByteArray} {k : Nat} {T : TB}
theorem Rd.below (h : Rd w B g L k ws) (hb : Below w.heap.size w w') : Rd w' B g L k ws := by
  obtain ⟨hB, hl, hf, hs, A, c, A2, c2, h1, h2, h3⟩ := h
  exact ⟨hB, hl, hf, hs, A, c, A2, c2, h1.below hb h1.lt, own_keepK h2 hb, own_keepK h3 hb⟩
theorem Tl.below (h : Tl w B g T) (hb : Below w.heap.size w w') : Tl w' B g T := by
  obtain ⟨hB, A, c, h1, h2⟩ := h
  exact ⟨hB, A, c, h1.below hb h1.lt, own_keepK h2 hb⟩
/-- A table isn't touched where another object's block alone was. -/
theorem Tl.chg {q : Nat} {t : TypeId} {cs : Array Value} (h : Tl w B g T) (hq : Holds w q t cs) (h1 : t ≠ 54) (h2 : t ≠ 51) (hc : Chg (fun k => k = q) w w') : Tl w' B g T := by
  obtain ⟨hB, A, c, hH, hO⟩ := h
  refine ⟨hB, A, c, hH.chg hc (fun e => hH.apart hq (Ne.symm h1) e), own_chg hO hc (fun x hx e => hq.own_apart hO (Ne.symm h2) (by rw [← e]; exact hx))⟩
theorem Rd.lt (h : Rd w B g L k ws) : g < w.heap.size := by
  obtain ⟨_, _, _, _, A, c, A2, c2, h1, _⟩ := h
  exact h1.lt
theorem Tl.lt (h : Tl w B g T) : g < w.heap.size := by
  obtain ⟨_, A, c, h1, _⟩ := h
  exact h1.lt
end
/-- Both; nothing older than w0's end was changed. -/
structure RT (w0 w : World) (g q : Nat) (L : List ByteArray) (k : Nat) (ws : List ByteArray) (T : TB) : Prop where
  rd : Rd w w0.heap.size g L k ws
  tl : Tl w w0.heap.size q T
  old : Below w0.heap.size w0 w
theorem RT.below {w0 w w' : World} {g q : Nat} {L ws : List ByteArray} {k : Nat} {T : TB} (h : RT w0 w g q L k ws T) (hb : Below w.heap.size w w') : RT w0 w' g q L k ws T := ⟨h.rd.below hb, h.tl.below hb, h.old.trans (hb.mono h.old.size)⟩

/-- The library's variable that is read. -/
def Mt (w : World) : Prop := ∃ m, w.cell? ⟨1, 0, none⟩ = some (.int .i64 m)
theorem Mt.below {w w' : World} (h : Mt w) (hb : Below w.heap.size w w') : Mt w' := by
  obtain ⟨m, h2⟩ := h
  exact ⟨m, (hb.cell (p := ⟨1, 0, none⟩) (block_lt h2)).trans h2⟩
/-- strings.Split by one byte. -/
theorem split_any (s : ByteArray) (c : UInt8) (w : World) (hs : s.size ≤ 1000000) (hm : Mt w) :
    Calls Tryd.prog 30 #[.string s, .string ⟨#[c]⟩] w fun e w' => e = .returned (.slice (some ⟨w.heap.size, 0, none⟩) (pcs c s).length (pcs c s).length) ∧ w' = w.alloc (.cells (sts (pcs c s)).toArray 9) := by
  obtain ⟨m, hm⟩ := hm
  refine (Tryd.strings_Split s ⟨#[c]⟩ m w (by omega) hm (Nat.le_refl _)).mono ?_
  rintro e w' ⟨rfl, rfl⟩
  rw [split_is, split_len]
  exact ⟨rfl, rfl⟩

/-- The reader goes on. -/
theorem Rd.line {w : World} {B g : Nat} {L ws : List ByteArray} {k : Nat} {v0 v2 : Value} {A : Option Addr} {c : Nat} {A2 : Option Addr} {c2 : Nat} (h : Rd w B g L k ws) (m : Nat) (hm : m ≤ L.length) : Rd (w.setCell ⟨g, 1, none⟩ (.int .i64 (m : Int))) B g L m ws := by
  obtain ⟨hB, hl, hf, hs, A, c, A2, c2, h1, h2, h3⟩ := h
  have hc := Chg.set (S := fun k => k = g) w g 1 (.int .i64 (m : Int)) rfl
  exact ⟨hB, hm, hf, hs, A, c, A2, c2, h1.put 1 _, own_chg h2 hc (fun q hq e => h1.own_apart h2 (by decide) (by rw [← e]; exact hq)), own_chg h3 hc (fun q hq e => h1.own_apart h3 (by decide) (by rw [← e]; exact hq))⟩
theorem Rd.words {w w' : World} {B g : Nat} {L ws : List ByteArray} {k : Nat} (h : Rd w B g L k ws) (hb : Below w.heap.size w w') (ws' : List ByteArray) (A' : Option Addr) (c' : Nat) (ho : w'.ownsRow B 9 1 (.slice A' ws'.length c') ws'.length (sts ws')) :
    Rd (w'.setCell ⟨g, 2, none⟩ (.slice A' ws'.length c')) B g L k ws' := by
  obtain ⟨hB, hl, hf, hs, A, c, A2, c2, h1, h2, h3⟩ := h.below hb
  have hc := Chg.set (S := fun k => k = g) w' g 2 (.slice A' ws'.length c') rfl
  exact ⟨hB, hl, hf, hs, A, c, A', c', h1.put 2 _, own_chg h2 hc (fun q hq e => h1.own_apart h2 (by decide) (by rw [← e]; exact hq)), own_chg ho hc (fun q hq e => h1.own_apart ho (by decide) (by rw [← e]; exact hq))⟩
theorem RT.line {w0 w : World} {g q : Nat} {L ws : List ByteArray} {k : Nat} {T : TB} (h : RT w0 w g q L k ws T) (m : Nat) (hm : m ≤ L.length) : RT w0 (w.setCell ⟨g, 1, none⟩ (.int .i64 (m : Int))) g q L m ws T := by
  have h0 := h.rd
  obtain ⟨hB, hl, hf, hs, A, c, A2, c2, h1, h2, h3⟩ := h.rd
  exact ⟨h0.line (v0 := .nilIface) (v2 := .nilIface) (A := none) (c := 0) (A2 := none) (c2 := 0) m hm, h.tl.chg h1 (by decide) (by decide) (Chg.set w g 1 _ rfl), h.old.setCell hB _⟩
theorem RT.words {w0 w w' : World} {g q : Nat} {L ws : List ByteArray} {k : Nat} {T : TB} (h : RT w0 w g q L k ws T) (hb : Below w.heap.size w w') (ws' : List ByteArray) (A' : Option Addr) (c' : Nat) (ho : w'.ownsRow w0.heap.size 9 1 (.slice A' ws'.length c') ws'.length (sts ws')) :
    RT w0 (w'.setCell ⟨g, 2, none⟩ (.slice A' ws'.length c')) g q L k ws' T := by
  have h0 := h.below hb
  obtain ⟨hB, hl, hf, hs, A, c, A2, c2, h1, h2, h3⟩ := h0.rd
  exact ⟨h.rd.words hb ws' A' c' ho, h0.tl.chg h1 (by decide) (by decide) (Chg.set w' g 2 _ rfl), h0.old.setCell hB _⟩
theorem RT.one {w0 w : World} {g q : Nat} {L ws : List ByteArray} {k : Nat} {T : TB} (h : RT w0 w g q L k ws T) : w.cell? ⟨g, 1, none⟩ = some (.int .i64 (k : Int)) := by
  obtain ⟨hB, hl, hf, hs, A, c, A2, c2, h1, h2, h3⟩ := h.rd
  exact h1.cell 1
/-- The number of the line that a reader is at. -/
def lineAt (w : World) (g : Nat) : Nat := match w.cell? ⟨g, 1, none⟩ with
  | some (.int .i64 z) => z.toNat
  | _ => 0
theorem RT.at {w0 w : World} {g q : Nat} {L ws : List ByteArray} {k : Nat} {T : TB} (h : RT w0 w g q L k ws T) : lineAt w g = k := by
  unfold lineAt
  rw [h.one]
  exact Int.toNat_natCast k
theorem size_set (w : World) (a : Addr) (v : Value) : (w.setCell a v).heap.size = w.heap.size := by simp [World.setCell]
theorem RT.split {w0 W w1 : World} {g q : Nat} {L ws : List ByteArray} {k : Nat} {T : TB} (h : RT w0 W g q L k ws T) (s : ByteArray) (hs : s.size ≤ 16384) (hw : w1 = W.alloc (.cells (sts (pcs 32 s)).toArray 9)) :
    (∃ v, w1.cell? ⟨g, 2, none⟩ = some v) ∧ w1.frozen? ⟨g, 2, none⟩ = false ∧ RT w0 (w1.setCell ⟨g, 2, none⟩ (.slice (some ⟨W.heap.size, 0, none⟩) (pcs 32 s).length (pcs 32 s).length)) g q L k (pcs 32 s) T := by
  have hl := pcs_len 32 s
  have hb : Below W.heap.size W w1 := by rw [hw]; exact below_alloc _ _
  have ho : w1.ownsRow w0.heap.size 9 1 (.slice (some ⟨W.heap.size, 0, none⟩) (pcs 32 s).length (pcs 32 s).length) (pcs 32 s).length (sts (pcs 32 s)) := by
    rw [hw]
    exact own_texts W _ _ _ h.old.size (by unfold maxLen; omega)
  refine ⟨?_, ?_, h.words hb _ _ _ ho⟩
  · obtain ⟨hB, hl, hf, hs, A, c, A2, c2, h1, h2, h3⟩ := (h.below hb).rd
    exact ⟨_, h1.cell 2⟩
  · obtain ⟨hB, hl, hf, hs, A, c, A2, c2, h1, h2, h3⟩ := (h.below hb).rd
    exact h1.soft 2
theorem skip_yes {s : ByteArray} (h : skipB s = true) : s.size = 0 ∨ (¬ s.size = 0 ∧ byt s 0 = 35) := by
  unfold skipB at h
  by_cases h0 : s.size = 0
  · exact .inl h0
  · simp [h0] at h
    exact .inr ⟨h0, h⟩
theorem skip_no {s : ByteArray} (h : skipB s = false) : ¬ s.size = 0 ∧ ¬ byt s 0 = 35 := by
  unfold skipB at h
  simpa using h
theorem run_byte' (t : ByteArray) (h : ¬ t.size = 0) (W : World) : (Instr.index 9 (.string t) (.int .i64 0)).run Tryd.prog W = .ok (.int .u8 (byt t 0)) W := run_byte t 0 (by omega) W
theorem text_eq (a b : ByteArray) : (a.toList == b.toList) = decide (a = b) := by
  by_cases h : a = b
  · rw [h, decide_eq_true rfl]
    exact beq_self_eq_true _
  · rw [decide_eq_false h]
    refine beq_eq_false_iff_ne.2 fun e => h (ByteArray.ext (Array.toList_inj.1 ?_))
    rwa [Lib.toList_data, Lib.toList_data] at e
theorem empty_iff {s : ByteArray} : s = ⟨#[]⟩ ↔ s.size = 0 := by
  constructor
  · rintro rfl
    rfl
  · intro h
    have h0 : s.data.toList = [] := List.eq_nil_of_length_eq_zero (by rw [size_list]; exact h)
    exact arr_of h0
theorem empty_yes {s : ByteArray} (h : s.size = 0) : s.toList.isEmpty = true := by
  rw [empty_iff.2 h, Lib.toList_data]
  rfl
theorem empty_no {s : ByteArray} (h : ¬ s.size = 0) : s.toList.isEmpty = false := by
  rw [List.isEmpty_eq_false_iff]
  intro e
  rw [Lib.toList_data] at e
  exact h (empty_iff.1 (arr_of e))
theorem drop_one {L : List ByteArray} {p : Nat} {s : ByteArray} (h : L[p]? = some s) : L.drop p = s :: L.drop (p + 1) := by
  obtain ⟨hlt, e⟩ := List.getElem?_eq_some_iff.1 h
  rw [List.drop_eq_getElem_cons hlt, e]
/-- Behind next. -/
def Nexted (w0 : World) (g q : Nat) (L : List ByteArray) (k : Nat) (T : TB) (e : Ending) (w' : World) : Prop :=
  (∃ k' l, nextR (L.drop k) k = (k', some l) ∧ e = .returned (.bool true) ∧ RT w0 w' g q L k' (pcs 32 l) T) ∨ (nextR (L.drop k) k = (L.length, none) ∧ e = .returned (.bool false) ∧ RT w0 w' g q L L.length [] T)
set_option maxHeartbeats 2000000 in
theorem next_any (w0 w : World) (g q : Nat) (L ws : List ByteArray) (k : Nat) (T : TB) (h : RT w0 w g q L k ws T) (hM : Mt w0) :
    Calls Tryd.prog 47 #[.pointer (some ⟨g, 0, none⟩)] w (Nexted w0 g q L k T) := by
  have H := Lib.hid h
  have HM := Lib.hid hM
  have hk := h.rd.le
  have hfew := h.rd.few
  have HSh := Lib.hid h.rd.short
  clear h hM
  go_enter Tryd.func47, Tryd.ntmps47
  go_wp2
  go_loopw [3] (fun u wr => ∃ p : Nat, p ≤ L.length ∧ nextR (L.drop p) p = nextR (L.drop k) k ∧ RT w0 wr g q L p ws T) (fun _ wr => L.length - lineAt wr g)
  case atStart => exact ⟨k, hk, rfl, H.out⟩
  case round =>
    obtain ⟨p, hp, hnx, hr⟩ := hrel
    have HR := Lib.hid hr
    have HN := Lib.hid hnx
    obtain ⟨hB, -, -, -, A, c, A2, c2, h1, h2, h3⟩ := hr.rd
    have c0 := h1.cell 0
    have c1 := h1.cell 1
    have f1 := h1.soft 1
    have f2 := h1.soft 2
    clear hr hnx
    by_cases hlt : p < L.length
    · obtain ⟨s, hs⟩ : ∃ s, L[p]? = some s := ⟨_, List.getElem?_eq_getElem hlt⟩
      obtain ⟨b, rfl, hBb, -, -, hcell⟩ := own_text h2 hs
      have hd := drop_one hs
      have hsz := HSh.out s (List.mem_of_getElem? hs)
      have ew := IntWalk.i64_in ((p : Int) + 1) (by omega)
      have hlt2 : (p : Int) < (L.length : Int) := by omega
      have hlt3 : decide ((p : Int) < (L.length : Int)) = true := decide_eq_true hlt2
      have HN2 := Lib.hid (show nextR (s :: L.drop (p + 1)) p = nextR (L.drop k) k by rw [← hd]; exact HN.out)
      have HR2 := Lib.hid (fun m => (show RT w0 ((wr.drewN m).setCell ⟨g, 1, none⟩ (.int .i64 ((p : Int) + 1))) g q L (p + 1) ws T from (HR.out.below (below_drewN (Below.refl _ _) m)).line (p + 1) (by omega)))
      clear hd hs h1 h2 h3
      have HO := Lib.hid HR.out.old.size
      by_cases hsk : skipB s = true
      · have HN3 := Lib.hid (show nextR (L.drop (p + 1)) (p + 1) = nextR (L.drop k) k by rw [← HN2.out, nextR_cons, if_pos hsk])
        rcases skip_yes hsk with h0 | ⟨h0, h35⟩
        · have he := empty_yes h0
          clear hsk
          go_upto_region 1 with (fail)
          go_quiet (fail)
          go_upto_region 2 with (fail)
          go_quiet (fail)
          go_wp2
          go_roundw
          case rel => exact ⟨p + 1, by omega, HN3.out, HR2.out _⟩
          case measure => rw [(HR2.out _).at, HR.out.at]; omega
        · have he := empty_no h0
          have hby := run_byte' s h0
          clear hsk
          go_upto_region 1 with (fail)
          go_quiet (fail)
          go_upto_region 2 with (fail)
          go_quiet (fail)
          go_wp2
          go_roundw
          case rel => exact ⟨p + 1, by omega, HN3.out, HR2.out _⟩
          case measure => rw [(HR2.out _).at, HR.out.at]; omega
      · have hsk' : skipB s = false := by simpa using hsk
        obtain ⟨h0, h35⟩ := skip_no hsk'
        have he := empty_no h0
        have hby := run_byte' s h0
        have hne := beq_no h35
        have HN3 := Lib.hid (show nextR (L.drop k) k = (p + 1, some s) by rw [← HN2.out, nextR_cons, if_neg hsk])
        have HSP := Lib.hid (fun W hW => split_any s 32 W (by omega) (HM.out.below hW))
        have HPL := Lib.hid (pcs_len 32 s)
        clear hsk hsk'
        go_upto_region 1 with (fail)
        go_quiet (fail)
        go_upto_region 2 with (fail)
        go_quiet (fail)
        go_wp2_with (go_at_call 30; refine (HSP.out _ ((HR2.out _).old)).mono ?_; rintro e w1 ⟨rfl, hw1⟩; have HD := Lib.hid (RT.split (HR2.out _) s hsz hw1); obtain ⟨⟨v2, g2⟩, k2, -⟩ := HD.out; clear hw1)
        go_ret
        exact .inl ⟨p + 1, s, HN3.out, rfl, by have h := HD.out.2.2; rw [size_set] at h; exact h⟩
    · have hpl : p = L.length := by omega
      subst hpl
      have c2v := h1.cell 2
      have hlt3 : decide ((L.length : Int) < (L.length : Int)) = false := decide_eq_false (by omega)
      have HF := Lib.hid (fun m => (HR.out.below (below_drewN (Below.refl _ _) m)).words (Below.refl _ _) [] none 0 (World.ownsRow_nil _ _ _ _))
      have HN3 := Lib.hid (show nextR (L.drop k) k = (L.length, none) by rw [← HN.out, List.drop_length]; rfl)
      clear h1 h2 h3
      go_upto_region 1 with (fail)
      go_quiet (fail)
      go_wp2
      go_ret
      exact .inr ⟨HN3.out, rfl, HF.out _⟩
end Go.Proofs.YtiglhmdiiajmhaaDoor

/- Package leap: a line's words, a word's day, number, step. -/
import Derived.Test.YtiglhmdiiajmhaaDoorLpA
import Derived.Carry
namespace Go.Proofs.YtiglhmdiiajmhaaDoor
open Go.RowKit
set_option linter.unusedSimpArgs false
set_option linter.unusedVariables false

/-- What the words behind a line's first one are. -/
structure Wds (w : World) (v : Value) (ws : List ByteArray) : Prop where
  lies : ∃ b n c, v = .slice (some ⟨b, 1, none⟩) n c ∧ n = ws.length ∧ n ≤ c ∧ b < w.heap.size ∧ ∀ i s, ws[i]? = some s → w.cell? ⟨b, 1 + i, none⟩ = some (.string s)
theorem Wds.below {w w' : World} {v : Value} {ws : List ByteArray} (h : Wds w v ws) (hb : Below w.heap.size w w') : Wds w' v ws := by
  obtain ⟨b, n, c, e, hn, hc, hl, hh⟩ := h
  exact ⟨b, n, c, e, hn, hc, Nat.lt_of_lt_of_le hl hb.size, fun i s hi => (hb.cell (p := ⟨b, 1 + i, none⟩) hl).trans (hh i s hi)⟩
/-- Where a line's words are not as they must be. -/
theorem behind_no (w : World) (B g k : Nat) (L ws : List ByteArray) (f : ByteArray) (n : Nat) (h : Rd w B g L k ws) (hn : n ≤ 10) (hf : ¬ (ws.length = 1 + n ∧ ws.head? = some f)) :
    Calls Tryd.prog 69 #[.pointer (some ⟨g, 0, none⟩), .string f, .int .i64 (n : Int)] w fun e w' => e = .panicked (faultV (k : Int) 3) ∧ w' = w := by
  obtain ⟨hB, hl, hfew, hs, A, c, A2, c2, h1, h2, h3⟩ := h
  have c1 := h1.cell 1
  have c2' := h1.cell 2
  have ew := IntWalk.i64_in (1 + (n : Int)) (by omega)
  have HM := Lib.hid (fun c => must_no g c (k : Int) w c1)
  by_cases hlen : ws.length = 1 + n
  · have hne : ¬ ws.head? = some f := fun e => hf ⟨hlen, e⟩
    cases ws with
    | nil => simp only [List.length_nil] at hlen; omega
    | cons x xs =>
      have hx : ¬ x = f := by simpa using hne
      have ht : (x.toList == f.toList) = false := by rw [text_eq, decide_eq_false hx]
      obtain ⟨b, rfl, hBb, hnc, -, hcell⟩ := own_text h3 (i := 0) (s := x) rfl
      have hlen2 : (((x :: xs).length : Nat) : Int) = 1 + (n : Int) := by rw [hlen]; omega
      have hb1 : ((((x :: xs).length : Nat) : Int) == 1 + (n : Int)) = true := by rw [hlen2]; exact beq_self_eq_true _
      have hlt : (0 : Int) < (((x :: xs).length : Nat) : Int) := by simp only [List.length_cons]; omega
      obtain ⟨N, hN⟩ : ∃ N, (x :: xs).length = N := ⟨_, rfl⟩
      simp only [hN] at *
      clear hN h1 h2 h3 hf hne hlen
      go_enter Tryd.func69, Tryd.ntmps69
      go_wp2_with (go_at_call 51; refine (HM.out _).mono ?_; rintro e w1 ⟨rfl, rfl⟩)
      exact ⟨rfl, rfl, rfl⟩
  · have hlen2 : ¬ (ws.length : Int) = 1 + (n : Int) := by omega
    have hb1 := beq_no hlen2
    clear h1 h2 h3 hf hlen
    go_enter Tryd.func69, Tryd.ntmps69
    go_wp2_with (go_at_call 51; refine (HM.out _).mono ?_; rintro e w1 ⟨rfl, rfl⟩)
    exact ⟨rfl, rfl, rfl⟩
theorem behind_yes (w : World) (B g k : Nat) (L : List ByteArray) (f : ByteArray) (ws : List ByteArray) (h : Rd w B g L k (f :: ws)) (h0 : 1 ≤ ws.length) (hn : ws.length ≤ 10) :
    Calls Tryd.prog 69 #[.pointer (some ⟨g, 0, none⟩), .string f, .int .i64 (ws.length : Int)] w fun e w' => ∃ v, e = .returned v ∧ w' = w ∧ Wds w v ws := by
  obtain ⟨hB, hl, hfew, hs, A, c, A2, c2, h1, h2, h3⟩ := h
  have c1 := h1.cell 1
  have c2' := h1.cell 2
  have ew := IntWalk.i64_in (1 + (ws.length : Int)) (by omega)
  have ht : (f.toList == f.toList) = true := beq_self_eq_true _
  have h3' := h3
  obtain ⟨b, rfl, hBb, hnc, hcm, hcell⟩ := own_text h3 (i := 0) (s := f) rfl
  have HW := Lib.hid (show Wds w (.slice (some ⟨b, 1, none⟩) ws.length (c2 - 1)) ws from ⟨b, _, _, rfl, rfl, by simp only [List.length_cons] at hnc; omega, block_lt hcell, fun i s hi => by
    obtain ⟨b', e', _, _, _, hc⟩ := own_text h3' (i := i + 1) (s := s) (by simpa using hi)
    simp only [Option.some.injEq, Addr.mk.injEq, and_true] at e'
    subst e'
    rw [Nat.add_comm 1 i]
    exact hc⟩)
  simp only [List.length_cons] at c2' hnc
  have hb1 : (((ws.length + 1 : Nat) : Int) == 1 + (ws.length : Int)) = true := beq_iff_eq.2 (by omega)
  have hlt : (0 : Int) < ((ws.length + 1 : Nat) : Int) := by omega
  obtain ⟨N, hN⟩ : ∃ N, ws.length = N := ⟨_, rfl⟩
  simp only [hN] at *
  have hc1 : ¬ c2 = 1 := by omega
  clear hN h1 h2 h3 h3'
  go_enter Tryd.func69, Tryd.ntmps69
  go_wp2_with (go_at_call 51; refine (must_yes _ _ _).mono ?_; rintro e w1 ⟨rfl, rfl⟩)
  go_ret
  exact ⟨_, rfl, rfl, HW.out⟩
theorem wd_at {w : World} {v : Value} {ws : List ByteArray} (h : Wds w v ws) : ∃ b n c, v = .slice (some ⟨b, 1, none⟩) n c ∧ n = ws.length ∧ n ≤ c ∧ b < w.heap.size ∧ ∀ i s, ws[i]? = some s → w.cell? ⟨b, 1 + i, none⟩ = some (.string s) := h.lies

theorem day_yes (w : World) (g : Nat) (s : ByteArray) (n : Int) (h : dayOf s = some n) :
    Calls Tryd.prog 70 #[.pointer (some ⟨g, 0, none⟩), .string s] w fun e w' => e = .returned (.int .i64 n) ∧ Below w.heap.size w w' := by
  obtain ⟨y, m, d, hd, rfl⟩ := dayOf_some h
  have hp := fun W => parse_yes s y m d W hd
  have hn := fun W => number_yes y m d W hd.can
  clear h hd
  go_enter Tryd.func70, Tryd.ntmps70
  go_wp2_with (first
    | (go_at_call 87; refine (hp _).mono ?_; rintro e w1 ⟨rfl, hb1⟩; have HB := Lib.hid (Box.start w1 73 #[.int .i64 y, .int .i64 m, .int .i64 d]); obtain ⟨c0, c1, c2, _⟩ := HB.out.cells3)
    | (go_at_call 51; refine (must_yes _ _ _).mono ?_; rintro e w2 ⟨rfl, hw2⟩; subst hw2)
    | (go_at_call 88; refine (hn _).mono ?_; rintro e w3 ⟨rfl, hb3⟩))
  go_ret
  exact ⟨rfl, hb1.trans ((HB.out.next hb3).below.mono hb1.size)⟩
theorem day_no (w : World) (g : Nat) (k : Int) (s : ByteArray) (h : dayOf s = none) (hs : s.size ≤ maxLen) (hk : w.cell? ⟨g, 1, none⟩ = some (.int .i64 k)) :
    Calls Tryd.prog 70 #[.pointer (some ⟨g, 0, none⟩), .string s] w fun e w' => e = .panicked (faultV k 3) ∧ Below w.heap.size w w' := by
  have hp := fun W => parse_no s W hs (dayOf_none h)
  have hg := block_lt hk
  clear h
  go_enter Tryd.func70, Tryd.ntmps70
  go_wp2_with (first
    | (go_at_call 87; refine (hp _).mono ?_; rintro e w1 ⟨rfl, hb1⟩; have HB := Lib.hid (Box.start w1 73 #[.int .i64 0, .int .i64 0, .int .i64 0]); have HB1 := Lib.hid (hb1.trans (HB.out.below.mono hb1.size)))
    | (go_at_call 51; refine (must_no _ _ k _ ((HB1.out.cell (p := ⟨g, 1, none⟩) hg).trans hk)).mono ?_; rintro e w2 ⟨rfl, hw2⟩; subst hw2))
  exact ⟨rfl, rfl, HB1.out⟩
section
open Go.Maps
def signR (v : Value) : Option (DataW Value × List MemPlace) := some (.held v, [])
theorem skeyed : Keyed Tryd.prog 9 := string_keyed Tryd.underlying9
theorem zeroI (w : World) : (zeroValue 3).run Tryd.prog w = .ok (.int .i64 0) w := by kernel_rfl
theorem key_ne {a b : ByteArray} (h : ¬ a = b) : Lit.string a.data.toList ≠ Lit.string b.data.toList := fun e => h (ByteArray.ext (Array.toList_inj.1 (Lit.string.inj e)))
theorem skey (s : ByteArray) (hs : s.size ≤ maxLen) : keyOf Tryd.prog 9 (.string s) = some (.string s.data.toList) := WideMaps.keyOf_string_mk Tryd.underlying9 hs
/-- The signs, as the map that step makes. -/
theorem signs_map (w : World) : ∃ w1 w2, (Instr.mapUpdate 115 (.map (some w.heap.size)) (.string ⟨#[43, 49]⟩) (.int .i64 1)).run Tryd.prog (w.alloc (.map #[] 0)) = .ok () w1 ∧
    (Instr.mapUpdate 115 (.map (some w.heap.size)) (.string ⟨#[45, 49]⟩) (.int .i64 (-1))).run Tryd.prog w1 = .ok () w2 ∧ Below w.heap.size w w2 ∧
    ∀ s : ByteArray, s.size ≤ maxLen → (Instr.lookup 115 (.map (some w.heap.size)) (.string s) true).run Tryd.prog w2 = .ok (.tuple #[.int .i64 ((stepOf s).getD 0), .bool (stepOf s).isSome]) w2 := by
  have h0 := World.ownsMap_made (P := Tryd.prog) (k := 9) (R := signR) w
  have k1 := skey ⟨#[43, 49]⟩ (by unfold maxLen; decide)
  have k2 := skey ⟨#[45, 49]⟩ (by unfold maxLen; decide)
  have l1 : WideAt.IsKeyLit (.string (⟨#[43, 49]⟩ : ByteArray).data.toList) := skeyed.key k1
  have l2 : WideAt.IsKeyLit (.string (⟨#[45, 49]⟩ : ByteArray).data.toList) := skeyed.key k2
  obtain ⟨w1, r1, o1, g1⟩ := h0.update skeyed Tryd.underlying115 (by unfold maxLen; omega) (val := .int .i64 1) (d := .held (.int .i64 1)) (ps := []) k1 rfl
  obtain ⟨w2, r2, o2, g2⟩ := o1.update skeyed Tryd.underlying115 (by unfold maxLen; omega) (val := .int .i64 (-1)) (d := .held (.int .i64 (-1))) (ps := []) k2 rfl
  refine ⟨w1, w2, r1, r2, ?_, fun s hs => ?_⟩
  · exact ((below_alloc w _).grown g1 (by simp) (fun k e => by cases e; exact Nat.le_refl _)).grown g2 (Nat.le_trans (by simp) g1.size) (fun k e => by cases e; exact Nat.le_refl _)
  · obtain ⟨v, ps, e1, e2⟩ := o2.look_ok skeyed Tryd.underlying115 (zeroI w2) (zd := .held (.int .i64 0)) (zp := []) rfl (skey s hs)
    have hm : IsMap (DataW.map ([] : List (Lit × DataW Value))) := ⟨[], rfl⟩
    have hm1 := IsMap.put hm (.string (⟨#[43, 49]⟩ : ByteArray).data.toList) (.held (.int .i64 1))
    rw [e1]
    by_cases h1 : s = ⟨#[45, 49]⟩
    · subst h1
      rw [atKey_put_same hm1 l2] at e2
      rw [has_put_same hm1 l2]
      simp only [signR, Option.some.injEq, Prod.mk.injEq, DataW.held.injEq] at e2
      rw [e2.1]
      rfl
    · have n1 := key_ne h1
      rw [atKey_put_other n1] at e2
      rw [has_put_other n1]
      by_cases h2 : s = ⟨#[43, 49]⟩
      · subst h2
        rw [atKey_put_same hm l1] at e2
        rw [has_put_same hm l1]
        simp only [signR, Option.some.injEq, Prod.mk.injEq, DataW.held.injEq] at e2
        rw [e2.1]
        rfl
      · have n2 := key_ne h2
        rw [atKey_put_other n2] at e2
        rw [has_put_other n2]
        have hn : has (DataW.map ([] : List (Lit × DataW Value))) (.string s.data.toList) = false := rfl
        rw [atKey_of_not_has hn] at e2
        rw [hn]
        simp only [signR, Option.some.injEq, Prod.mk.injEq, DataW.held.injEq] at e2
        rw [e2.1]
        have hst : stepOf s = none := by
          unfold stepOf moreB lessB
          rw [if_neg h2, if_neg h1]
        rw [hst]
        rfl
end
theorem step_yes (w : World) (g : Nat) (s : ByteArray) (n : Int) (h : stepOf s = some n) (hs : s.size ≤ maxLen) :
    Calls Tryd.prog 72 #[.pointer (some ⟨g, 0, none⟩), .string s] w fun e w' => e = .returned (.int .i64 n) ∧ Below w.heap.size w w' := by
  obtain ⟨w1, w2, r1, r2, hb, hl⟩ := signs_map w
  have hmm := @run_makeMap Tryd.prog
  have hlk := hl s hs
  rw [h] at hlk
  have HB := Lib.hid hb
  simp only [Option.getD_some, Option.isSome_some] at hlk
  clear hl hb h
  go_enter Tryd.func72, Tryd.ntmps72
  go_wp2_with (go_at_call 51; refine (must_yes _ _ _).mono ?_; rintro e w3 ⟨rfl, hw3⟩; subst hw3)
  go_ret
  exact ⟨rfl, HB.out⟩
theorem step_no (w : World) (g : Nat) (k : Int) (s : ByteArray) (h : stepOf s = none) (hs : s.size ≤ maxLen) (hk : w.cell? ⟨g, 1, none⟩ = some (.int .i64 k)) :
    Calls Tryd.prog 72 #[.pointer (some ⟨g, 0, none⟩), .string s] w fun e w' => e = .panicked (faultV k 3) ∧ Below w.heap.size w w' := by
  obtain ⟨w1, w2, r1, r2, hb, hl⟩ := signs_map w
  have hmm := @run_makeMap Tryd.prog
  have hlk := hl s hs
  rw [h] at hlk
  have HB := Lib.hid hb
  have HM := Lib.hid (must_no g 3 k w2 ((hb.cell (p := ⟨g, 1, none⟩) (block_lt hk)).trans hk))
  simp only [Option.getD_none, Option.isSome_none] at hlk
  clear hl hb h hk
  go_enter Tryd.func72, Tryd.ntmps72
  go_wp2_with (go_at_call 51; refine HM.out.mono ?_; rintro e w3 ⟨rfl, hw3⟩; subst hw3)
  exact ⟨rfl, rfl, HB.out⟩

/-- What a rune tells of its byte. -/
theorem rune_digit {s : ByteArray} {p : Nat} (h : p < s.size) : (digitB (byt s p) = true ↔ (48 ≤ ((Utf8.decode s p).1 : Int) ∧ ((Utf8.decode s p).1 : Int) ≤ 57)) ∧ (digitB (byt s p) = true → (Utf8.decode s p).2 = 1 ∧ ((Utf8.decode s p).1 : Int) = byt s p) ∧ (Utf8.decode s p).1 ≤ 2147483647 := by
  refine ⟨?_, ?_, decode_le s p⟩
  · by_cases ha : (s[p]'h).toNat < 128
    · rw [decode_ascii s p h ha, digit_iff, byt_at h]
    · have hd := decode_high s p h (by omega)
      rw [digit_iff, byt_at h]
      omega
  · intro hc
    by_cases ha : (s[p]'h).toNat < 128
    · rw [decode_ascii s p h ha, byt_at h]
      exact ⟨rfl, rfl⟩
    · exfalso
      rw [digit_iff, byt_at h] at hc
      omega
/-- The number of what has been read of a word. -/
def SecP (s : ByteArray) (p : Nat) (N : Int) : Prop := p ≤ s.size ∧ ((p = 0 ∧ N = 0) ∨ (p = 1 ∧ digitB (byt s 0) = true ∧ N = byt s 0 - 48) ∨ (p = 2 ∧ digitB (byt s 0) = true ∧ ¬ byt s 0 = 48 ∧ digitB (byt s 1) = true ∧ N = (byt s 0 - 48) * 10 + (byt s 1 - 48)))
theorem secP_bd {s : ByteArray} {p : Nat} {N : Int} (h : SecP s p N) : 0 ≤ N ∧ N ≤ 99 := by
  obtain ⟨_, ⟨_, h⟩ | ⟨_, h0, h⟩ | ⟨_, h0, h1, h2, h⟩⟩ := h
  · omega
  · rw [digit_iff] at h0; omega
  · rw [digit_iff] at h0 h2; omega
theorem secP_end {s : ByteArray} {N : Int} (h : SecP s s.size N) (h0 : ¬ s.size = 0) : smallOf s = some N := by
  obtain ⟨_, ⟨e, _⟩ | ⟨e, k0, h⟩ | ⟨e, k0, k1, k2, h⟩⟩ := h
  · exact absurd e h0
  · unfold smallOf
    rw [if_pos ⟨e, k0⟩, h]
  · unfold smallOf
    rw [if_neg (by omega), if_pos ⟨e, k0, k1, k2⟩, h]
theorem small_long {s : ByteArray} (h : 2 < s.size) : smallOf s = none := by
  unfold smallOf
  rw [if_neg (by omega), if_neg (by omega)]
theorem small_bad {s : ByteArray} {p : Nat} (hp : p < s.size) (hd : ¬ digitB (byt s p) = true) : smallOf s = none := by
  unfold smallOf
  rw [if_neg, if_neg]
  · rintro ⟨e, k0, _, k1⟩
    have : p = 0 ∨ p = 1 := by omega
    rcases this with rfl | rfl
    · exact hd k0
    · exact hd k1
  · rintro ⟨e, k0⟩
    have : p = 0 := by omega
    subst this
    exact hd k0
theorem small_nought {s : ByteArray} (hp : 1 < s.size) (h0 : byt s 0 = 48) : smallOf s = none := by
  unfold smallOf
  rw [if_neg (by omega), if_neg]
  rintro ⟨_, _, k, _⟩
  exact k h0
/-- Behind seconds. -/
def SecPost (s : ByteArray) (k : Int) (w : World) (e : Ending) (w' : World) : Prop := ((∃ n, smallOf s = some n ∧ e = .returned (.int .i64 n)) ∨ (smallOf s = none ∧ e = .panicked (faultV k 3))) ∧ Below w.heap.size w w'
set_option maxHeartbeats 2000000 in
theorem sec_any (w : World) (g : Nat) (k : Int) (s : ByteArray) (hk : w.cell? ⟨g, 1, none⟩ = some (.int .i64 k)) :
    Calls Tryd.prog 71 #[.pointer (some ⟨g, 0, none⟩), .string s] w (SecPost s k w) := by
  have hg := block_lt hk
  by_cases h0 : s.size = 0
  · have he := empty_yes h0
    have hn : smallOf s = none := by unfold smallOf; rw [if_neg (by omega), if_neg (by omega)]
    have HN := Lib.hid hn
    clear hn
    go_enter Tryd.func71, Tryd.ntmps71
    go_wp2_with (go_at_call 51; refine (must_no _ _ k _ hk).mono ?_; rintro e w1 ⟨rfl, hw1⟩; subst hw1)
    exact ⟨rfl, .inr ⟨HN.out, rfl⟩, Below.refl _ _⟩
  · have he := empty_no h0
    have HS0 := Lib.hid h0
    have HI := Lib.hid (show (w.iter s 0).heap[w.heap.size]? = some (.stringIter s 0) from heap_alloc_new w _)
    have HB := Lib.hid (show Below w.heap.size w (w.iter s 0) from below_alloc w _)
    clear h0
    go_enter Tryd.func71, Tryd.ntmps71
    go_wp2_with (go_at_call 51; refine (must_yes _ _ _).mono ?_; rintro e w1 ⟨rfl, hw1⟩; subst hw1)
    clear he
    go_loopw [5] (fun t wr => ∃ (p : Nat) (N : Int), SecP s p N ∧ t = .int .i64 N ∧ wr.heap[w1.heap.size]? = some (.stringIter s p) ∧ Below w1.heap.size w1 wr) (fun _ wr => s.size - wr.iterPos w1.heap.size)
    case atStart => exact ⟨0, 0, ⟨Nat.zero_le _, .inl ⟨rfl, rfl⟩⟩, rfl, HI.out, HB.out⟩
    case round =>
      clear HI HB
      obtain ⟨p, N, hp, rfl, hit, hbw⟩ := hrel
      have HP := Lib.hid hp
      have HM0 := Lib.hid (show wr.iterPos w1.heap.size = p by simp [World.iterPos, hit])
      have nb := secP_bd hp
      have hpl := hp.1
      by_cases hlt : p < s.size
      · have hnx : ∀ ty, (Instr.next (.pointer (some ⟨w1.heap.size, 0, none⟩)) true ty).run Tryd.prog wr = _ := fun ty => Lib.run_next_any_at wr w1.heap.size s p ty hit hlt
        obtain ⟨hrc, hwd, hr1⟩ := rune_digit hlt
        have HIT := Lib.hid (Lib.iterAt_heap wr w1.heap.size s p (p + (Utf8.decode s p).2) hit)
        have HBT := Lib.hid (below_iterAt' hbw (Nat.le_refl _) s (p + (Utf8.decode s p).2))
        obtain ⟨r, hre⟩ : ∃ r, (Utf8.decode s p).1 = r := ⟨_, rfl⟩
        obtain ⟨q, hqe⟩ : ∃ q, (Utf8.decode s p).2 = q := ⟨_, rfl⟩
        rw [hre] at hrc hr1 hwd
        rw [hqe] at hwd
        simp only [hre, hqe] at hnx HIT HBT
        clear hre hqe hit hbw
        obtain ⟨V, hV⟩ : ∃ V, wr.iterAt w1.heap.size s (p + q) = V := ⟨_, rfl⟩
        simp only [hV] at hnx HIT HBT
        have HV := Lib.hid hV
        clear hV hp
        have hrr : IntKind.i32.wrap (r : Int) = r := IntWalk.i32_in _ (by omega)
        have HK := Lib.hid ((HBT.out.cell (p := ⟨g, 1, none⟩) hg).trans hk)
        by_cases hd : digitB (byt s p) = true
        · obtain ⟨hq1, hrb⟩ := hwd hd
          have hrd := hrc.1 hd
          subst hq1
          have t1 : decide (48 ≤ (r : Int)) = true := decide_eq_true hrd.1
          have t2 : decide ((r : Int) ≤ 57) = true := decide_eq_true hrd.2
          have e0 := IntWalk.i32_in ((r : Int) - 48) (by omega)
          have e1 := IntWalk.i64_in ((r : Int) - 48) (by omega)
          have e2 := IntWalk.i64_in (N * 10) (by omega)
          have e3 := IntWalk.i64_in (N * 10 + ((r : Int) - 48)) (by omega)
          have HD := Lib.hid hd
          have HRB := Lib.hid hrb
          have HRD := Lib.hid hrd
          have hc3 : p = 0 ∨ (p = 1 ∧ ¬ N = 0) ∨ (p = 1 ∧ N = 0) ∨ p = 2 := by have := HP.out.2; omega
          clear hrc hwd hd hrb hrd
          rcases hc3 with hc | ⟨hc, hN⟩ | ⟨hc, hN⟩ | hc
          · have i0 : (p : Int) = 0 := by omega
            have hN0 : N = 0 := by have := HP.out.2; omega
            have i1 : ((p : Int) == 0) = true := beq_iff_eq.2 i0
            have t3 : decide (N * 10 + ((r : Int) - 48) ≤ 99) = true := decide_eq_true (by have := HRD.out; omega)
            have HQ := Lib.hid (show SecP s (p + 1) (N * 10 + ((r : Int) - 48)) from ⟨by omega, .inr (.inl ⟨by omega, by have := HD.out; rwa [hc] at this, by rw [hN0, HRB.out, hc]; omega⟩)⟩)
            clear hc hN0
            go_wp2_with (go_at_call 51; with_reducible refine (must_yes _ _ _).mono ?_; rintro e w2 ⟨rfl, hw2⟩; subst hw2)
            go_roundw
            case rel => exact ⟨p + 1, _, HQ.out, rfl, HIT.out, HBT.out⟩
            case measure => rw [HM0.out]; have := HIT.out; simp only [World.iterPos, this] <;> omega
          · have i0 : ¬ (p : Int) = 0 := by omega
            have i1 := beq_no i0
            have i2 := beq_no hN
            have i3 : (N != 0) = true := by simp [hN]
            have t3 : decide (N * 10 + ((r : Int) - 48) ≤ 99) = true := decide_eq_true (by
              have := HRD.out
              obtain ⟨_, h | ⟨_, h0, hn⟩ | h⟩ := HP.out
              · omega
              · rw [digit_iff] at h0
                omega
              · omega)
            have HQ := Lib.hid (show SecP s (p + 1) (N * 10 + ((r : Int) - 48)) from ⟨by omega, .inr (.inr (by
              have h1 := HD.out
              have h2 := HRB.out
              rw [hc] at h1 h2
              obtain ⟨_, h | ⟨_, h0, hn⟩ | h⟩ := HP.out
              · omega
              · exact ⟨by omega, h0, by omega, h1, by rw [hn, h2]⟩
              · omega))⟩)
            clear hc
            go_wp2_with (go_at_call 51; with_reducible refine (must_yes _ _ _).mono ?_; rintro e w2 ⟨rfl, hw2⟩; subst hw2)
            go_roundw
            case rel => exact ⟨p + 1, _, HQ.out, rfl, HIT.out, HBT.out⟩
            case measure => rw [HM0.out]; have := HIT.out; simp only [World.iterPos, this] <;> omega
          · have i0 : ¬ (p : Int) = 0 := by omega
            have i1 := beq_no i0
            have i2 : (N == 0) = true := beq_iff_eq.2 hN
            have i3 : (N != 0) = false := by simp [hN]
            have HE := Lib.hid (show smallOf s = none from small_nought (by omega) (by obtain ⟨_, h | ⟨_, h0, hn⟩ | h⟩ := HP.out <;> omega))
            clear hc
            go_wp2_with (first
              | (go_at_call 51; with_reducible refine (must_yes _ _ _).mono ?_; rintro e w2 ⟨rfl, hw2⟩; subst hw2)
              | (go_at_call 51; with_reducible refine (must_no _ _ k _ HK.out).mono ?_; rintro e w2 ⟨rfl, hw2⟩; subst hw2))
            exact ⟨rfl, .inr ⟨HE.out, rfl⟩, HBT.out⟩
          · have i0 : ¬ (p : Int) = 0 := by omega
            have i1 := beq_no i0
            have hN : ¬ N = 0 := by
              obtain ⟨_, h | h | ⟨_, h0, h1, h2, hn⟩⟩ := HP.out
              · omega
              · omega
              · rw [digit_iff] at h0 h2
                omega
            have i2 := beq_no hN
            have i3 : (N != 0) = true := by simp [hN]
            have t3 : decide (N * 10 + ((r : Int) - 48) ≤ 99) = false := decide_eq_false (by
              have := HRD.out
              obtain ⟨_, h | h | ⟨_, h0, h1, h2, hn⟩⟩ := HP.out
              · omega
              · omega
              · rw [digit_iff] at h0 h2
                omega)
            have HE := Lib.hid (show smallOf s = none from small_long (by omega))
            clear hc
            go_wp2_with (first
              | (go_at_call 51; with_reducible refine (must_yes _ _ _).mono ?_; rintro e w2 ⟨rfl, hw2⟩; subst hw2)
              | (go_at_call 51; with_reducible refine (must_no _ _ k _ HK.out).mono ?_; rintro e w2 ⟨rfl, hw2⟩; subst hw2))
            exact ⟨rfl, .inr ⟨HE.out, rfl⟩, HBT.out⟩
        · have HE := Lib.hid (show smallOf s = none from small_bad hlt hd)
          have hnd : ¬ (48 ≤ (r : Int) ∧ (r : Int) ≤ 57) := fun h => hd (hrc.2 h)
          clear hrc hwd hd
          by_cases h48 : 48 ≤ (r : Int)
          · have t1 : decide (48 ≤ (r : Int)) = true := decide_eq_true h48
            have t2 : decide ((r : Int) ≤ 57) = false := decide_eq_false (fun h => hnd ⟨h48, h⟩)
            go_wp2_with (go_at_call 51; with_reducible refine (must_no _ _ k _ HK.out).mono ?_; rintro e w2 ⟨rfl, hw2⟩; subst hw2)
            exact ⟨rfl, .inr ⟨HE.out, rfl⟩, HBT.out⟩
          · have t1 : decide (48 ≤ (r : Int)) = false := decide_eq_false h48
            go_wp2_with (go_at_call 51; with_reducible refine (must_no _ _ k _ HK.out).mono ?_; rintro e w2 ⟨rfl, hw2⟩; subst hw2)
            exact ⟨rfl, .inr ⟨HE.out, rfl⟩, HBT.out⟩
      · have hpe : p = s.size := by omega
        have hnp : ¬ p < s.size := hlt
        have hnx : ∀ ty, (Instr.next (.pointer (some ⟨w1.heap.size, 0, none⟩)) true ty).run Tryd.prog wr = _ := fun ty => Lib.run_next_end_at wr w1.heap.size s p ty hit hnp
        have HE := Lib.hid (show smallOf s = some N from secP_end (by rw [← hpe]; exact HP.out) HS0.out)
        have HBW := Lib.hid hbw
        clear hp hit hbw hpe
        go_wp2
        go_ret
        exact ⟨.inl ⟨N, HE.out, rfl⟩, HBW.out⟩
end Go.Proofs.YtiglhmdiiajmhaaDoor

/- Package timer: what is found in a row of entries: IndexFunc, Search; Clone. -/
import Derived.Test.YtfpjicmmnhcfcaaTmB
import Derived.Deep.QuietTactic
import Derived.BigQuiet
import Derived.Shelf.Abstract
import Derived.Lib.SliceRun
namespace Go.Proofs.Ytfpjicmmnhcfcaa
open Go.RowKit

/-- Where it stands that is due; -1: nowhere. -/
def whereIs (what : Int) (L : List (Int × Int)) : Int := match L.findIdx? (fun e => decide (e.2 = what)) with | some i => i | none => -1
theorem whereIs_at (what : Int) (L : List (Int × Int)) (k : Nat) (hk : k < L.length) (h : (L.getD k (0, 0)).2 = what) (hb : ∀ j, j < k → (L.getD j (0, 0)).2 ≠ what) : whereIs what L = k := by
  unfold whereIs
  have : L.findIdx? (fun e => decide (e.2 = what)) = some k := by
    rw [List.findIdx?_eq_some_iff_getElem]
    refine ⟨hk, ?_, fun j hj => ?_⟩
    · simpa [List.getD, hk] using h
    · have := hb j hj
      simpa [List.getD, show j < L.length by omega] using this
  rw [this]
theorem whereIs_no (what : Int) (L : List (Int × Int)) (hb : ∀ j, j < L.length → (L.getD j (0, 0)).2 ≠ what) : whereIs what L = -1 := by
  unfold whereIs
  have : L.findIdx? (fun e => decide (e.2 = what)) = none := by
    rw [List.findIdx?_eq_none_iff]
    intro x hx
    obtain ⟨j, hj, rfl⟩ := List.mem_iff_getElem.1 hx
    have := hb j hj
    simpa [List.getD, hj] using this
  rw [this]

/-- An entry of a row, as it lies. -/
theorem Ents.at {w : World} {B : Nat} {A : Option Addr} {n c : Nat} {L : List (Int × Int)} (h : Ents w B A n c L) {k : Nat} (hk : k < n) :
    ∃ g, A = some ⟨g, 0, none⟩ ∧ B ≤ g ∧ g < w.heap.size ∧ w.cell? ⟨g, k * 2, none⟩ = some (.int .i64 (L.getD k (0, 0)).1) ∧ w.cell? ⟨g, k * 2 + 1, none⟩ = some (.int .i64 (L.getD k (0, 0)).2) := by
  have hlen := h.len
  rcases own_open h with ⟨_, h0, _⟩ | ⟨g, cap, cur, ev, hB, hH, _, _, hcl, hct⟩
  · omega
  simp only [Value.slice.injEq, true_and] at ev
  obtain ⟨rfl, rfl⟩ := ev
  obtain ⟨e1, e2⟩ := ents_get L k (by omega)
  refine ⟨g, rfl, hB, hH.lt, ?_, ?_⟩
  · rw [hH.cell, ← e1, ← hct, List.getElem?_take, if_pos (by omega)]
    simp
  · rw [hH.cell, ← e2, ← hct, List.getElem?_take, if_pos (by omega)]
    simp
theorem Ents.below {w w' : World} {B : Nat} {A : Option Addr} {n c : Nat} {L : List (Int × Int)} (h : Ents w B A n c L) (hb : Below w.heap.size w w') : Ents w' B A n c L :=
  h.kept (row := none) ⟨hb.os, hb.tape, hb.output, hb.size, fun k hk _ => hb.block k hk⟩ (by cases A <;> simp [Value.ownBlock])

/-- The closure of Drop, at an entry. -/
theorem drop1_any (a b what : Int) (q : Nat) (w : World) (hq : w.cell? ⟨q, 0, none⟩ = some (.int .i64 what)) (hlt : q < w.heap.size) :
    Calls Try.prog 21 #[.agg #[.int .i64 a, .int .i64 b], .pointer (some ⟨q, 0, none⟩)] w fun e w' => e = .returned (.bool (decide (b = what))) ∧ Below w.heap.size w w' := by
  have hne : q ≠ w.heap.size := by omega
  go_enter Try.func21, Try.ntmps21
  go_wp2
  go_ret
  exact ⟨ret_bool (by rw [Bool.eq_iff_iff]; simp), below_alloc _ _⟩

set_option maxHeartbeats 1000000 in
theorem index_any (w : World) (B : Nat) (A : Option Addr) (n c : Nat) (L : List (Int × Int)) (q : Nat) (what : Int) (h : Ents w B A n c L) (hq : w.cell? ⟨q, 0, none⟩ = some (.int .i64 what)) :
    Calls Try.prog 20 #[.slice A n c, .func (.func 21) #[] #[.pointer (some ⟨q, 0, none⟩)]] w fun e w' =>
      e = .returned (.int .i64 (whereIs what L)) ∧ Below w.heap.size w w' := by
  obtain ⟨hnc, hcm⟩ := h.cap
  unfold maxLen at hcm
  have hlen := h.len
  have hqw : q < w.heap.size := block_lt hq
  have HE := Lib.hid h
  have HQ := Lib.hid hq
  have HL := Lib.hid hlen
  clear h hq hlen
  go_enter Try.func20, Try.ntmps20
  go_wp2
  go_loopw [8] (fun i wr => ∃ k : Nat, k ≤ n ∧ i = .int .i64 k ∧ (∀ j, j < k → (L.getD j (0, 0)).2 ≠ what) ∧ Below w.heap.size w wr) (fun i _ => n - (intOf i).toNat)
  case atStart => exact ⟨0, Nat.zero_le _, rfl, fun j hj => absurd hj (Nat.not_lt_zero _), Below.refl _ _⟩
  case round =>
    obtain ⟨k, hk, rfl, hbef, hb⟩ := hrel
    have HB := Lib.hid hbef
    clear hbef
    by_cases hlt : k < n
    · obtain ⟨g, rfl, hBg, hgw, q0, q1⟩ := HE.out.at hlt
      have c0 : wr.cell? ⟨g, k * 2, none⟩ = _ := (hb.cell (p := ⟨g, k * 2, none⟩) hgw).trans q0
      have c1 : wr.cell? ⟨g, k * 2 + 1, none⟩ = _ := (hb.cell (p := ⟨g, k * 2 + 1, none⟩) hgw).trans q1
      have cq : wr.cell? ⟨q, 0, none⟩ = _ := (hb.cell (p := ⟨q, 0, none⟩) hqw).trans HQ.out
      obtain ⟨a, ha⟩ : ∃ a, (L.getD k (0, 0)).1 = a := ⟨_, rfl⟩
      obtain ⟨b, hb2⟩ : ∃ b, (L.getD k (0, 0)).2 = b := ⟨_, rfl⟩
      rw [ha] at c0
      rw [hb2] at c1
      have HB2 := Lib.hid hb2
      have hd := fun W (hW : W.cell? ⟨q, 0, none⟩ = some (.int .i64 what)) (hl : q < W.heap.size) => drop1_any a b what q W hW hl
      have CQ := Lib.hid cq
      have hqr : q < wr.heap.size := Nat.lt_of_lt_of_le hqw hb.size
      clear q0 q1 ha hb2 cq
      by_cases hw : b = what
      · have hbt : decide (b = what) = true := by simp [hw]
        simp only [hbt] at hd
        clear hbt
        have hres := whereIs_at what L k (by rw [HL.out]; exact hlt) (HB2.out.trans hw) HB.out
        have HR := Lib.hid hres
        clear hres hw
        go_wp2_with (go_at_call 21; refine (hd _ CQ.out hqr).mono ?_; rintro e w' ⟨rfl, hb'⟩)
        go_ret
        exact ⟨ret_int HR.out.symm, hb.trans (hb'.mono hb.size)⟩
      · simp only [hw, decide_false] at hd
        go_wp2_with (go_at_call 21; refine (hd _ CQ.out hqr).mono ?_; rintro e w' ⟨rfl, hb'⟩)
        go_roundw
        case rel => exact ⟨k + 1, by omega, by go_num, fun j hj => by
          by_cases hjk : j = k
          · rw [hjk, HB2.out]
            exact hw
          · exact HB.out j (by omega), hb.trans (hb'.mono hb.size)⟩
        case measure => simp [intOf]; omega
    · have hkn : k = n := by omega
      have hres := whereIs_no what L (fun j hj => HB.out j (by rw [hkn, ← HL.out]; exact hj))
      have HR := Lib.hid hres
      clear hres
      go_wp2
      go_ret
      exact ⟨ret_int HR.out.symm, hb⟩

/-- The closure of until, at a place. -/
theorem until1_any (w : World) (p q g : Nat) (B : Nat) (A : Option Addr) (n c : Nat) (L : List (Int × Int)) (at' : Int) (k : Nat) (h : Ents w B A n c L) (hp : w.cell? ⟨p, 0, none⟩ = some (.pointer (some ⟨g, 0, none⟩)))
    (hq : w.cell? ⟨q, 0, none⟩ = some (.int .i64 at')) (hg : w.cell? ⟨g, 0, none⟩ = some (.slice A n c)) (hk : k < n) :
    Calls Try.prog 28 #[.int .i64 k, .pointer (some ⟨p, 0, none⟩), .pointer (some ⟨q, 0, none⟩)] w fun e w' => e = .returned (.bool (decide (at' < (L.getD k (0, 0)).1))) ∧ ∃ m, w' = w.drewN m := by
  obtain ⟨hnc, hcm⟩ := h.cap
  unfold maxLen at hcm
  obtain ⟨b, rfl, hBb, hbw, q0, q1⟩ := h.at hk
  clear h q1
  have hk0 : (0 : Int) ≤ (k : Int) := by omega
  have hkn : (k : Int) < (n : Int) := by omega
  go_enter Try.func28, Try.ntmps28
  go_wp2
  go_quiet (fail)
  go_wp2
  go_ret
  exact ⟨rfl, _, rfl⟩

/-- How many are due at a time, or sooner: those at the row's head. -/
def upto (t : Int) (L : List (Int × Int)) : Nat := (L.takeWhile (fun e => decide (e.1 ≤ t))).length
/-- The soonest first. -/
def Soon (L : List (Int × Int)) : Prop := L.Pairwise (fun a b => a.1 ≤ b.1)
theorem upto_le (t : Int) (L : List (Int × Int)) : upto t L ≤ L.length := (List.takeWhile_sublist _).length_le
theorem upto_at (t : Int) : ∀ (L : List (Int × Int)) (i : Nat), i ≤ L.length → (∀ k, k < i → (L.getD k (0, 0)).1 ≤ t) → (∀ k, i ≤ k → k < L.length → t < (L.getD k (0, 0)).1) → upto t L = i
  | [], i, hi, _, _ => by simp at hi; subst hi; rfl
  | e :: L, 0, _, _, h => by
    have := h 0 (Nat.le_refl _) (by simp)
    simp at this
    unfold upto
    rw [List.takeWhile_cons_of_neg (by simpa using this)]
    rfl
  | e :: L, i + 1, hi, h1, h2 => by
    have h0 := h1 0 (by omega)
    simp at h0
    have := upto_at t L i (by simpa using hi) (fun k hk => by simpa using h1 (k + 1) (by omega)) (fun k hk hl => by simpa using h2 (k + 1) (by omega) (by simpa using hl))
    unfold upto at *
    rw [List.takeWhile_cons_of_pos (by simpa using h0), List.length_cons, this]
theorem Soon.at {L : List (Int × Int)} (h : Soon L) {j k : Nat} (hjk : j ≤ k) (hk : k < L.length) : (L.getD j (0, 0)).1 ≤ (L.getD k (0, 0)).1 := by
  rcases Nat.lt_or_ge j k with hlt | hge
  · have := List.pairwise_iff_getElem.1 h j k (by omega) hk hlt
    simpa [List.getD, hk, show j < L.length by omega] using this
  · rw [show j = k by omega]
    exact Int.le_refl _

set_option maxHeartbeats 1000000 in
theorem search_any (w : World) (p q g : Nat) (B : Nat) (A : Option Addr) (n c : Nat) (L : List (Int × Int)) (at' : Int) (h : Ents w B A n c L) (hn : n ≤ 1000) (hs : Soon L) (hp : w.cell? ⟨p, 0, none⟩ = some (.pointer (some ⟨g, 0, none⟩)))
    (hq : w.cell? ⟨q, 0, none⟩ = some (.int .i64 at')) (hg : w.cell? ⟨g, 0, none⟩ = some (.slice A n c)) :
    Calls Try.prog 27 #[.int .i64 n, .func (.func 28) #[] #[.pointer (some ⟨p, 0, none⟩), .pointer (some ⟨q, 0, none⟩)]] w fun e w' => e = .returned (.int .i64 (upto at' L)) ∧ ∃ m, w' = w.drewN m := by
  have hlen := h.len
  have hun := fun (k : Nat) (hk : k < n) (m : Nat) => until1_any (w.drewN m) p q g B A n c L at' k (h.below (below_drewN (Below.refl _ _) m)) hp hq hg hk
  have HU := Lib.hid hun
  have HL := Lib.hid hlen
  have HS := Lib.hid hs
  clear h hp hq hg hs hun hlen
  go_enter Try.func27, Try.ntmps27
  go_wp2
  go_loopw [5, 6] (fun x y wr => ∃ i j : Nat, i ≤ j ∧ j ≤ n ∧ x = .int .i64 i ∧ y = .int .i64 j ∧ (∀ k, k < i → (L.getD k (0, 0)).1 ≤ at') ∧ (∀ k, j ≤ k → k < n → at' < (L.getD k (0, 0)).1) ∧ ∃ m, wr = w.drewN m) (fun x y _ => (intOf y).toNat - (intOf x).toNat)
  case atStart => exact ⟨0, n, Nat.zero_le _, Nat.le_refl _, rfl, rfl, fun k hk => absurd hk (Nat.not_lt_zero _), fun k h1 h2 => absurd h2 (by omega), 0, rfl⟩
  case round =>
    obtain ⟨i, j, hij, hjn, rfl, rfl, hlo, hhi, m, rfl⟩ := hrel
    have HLO := Lib.hid hlo
    have HHI := Lib.hid hhi
    clear hlo hhi
    by_cases hlt : i < j
    · obtain ⟨h, hh⟩ : ∃ h, h = (i + j) / 2 := ⟨_, rfl⟩
      have hmid : (h : Int) = ((i : Int) + (j : Int)) / 2 := by omega
      have hh1 : i ≤ h := by omega
      have hh2 : h < j := by omega
      have hun := HU.out h (by omega) m
      rw [hmid] at hun
      have HM := Lib.hid hmid
      clear hmid hh
      by_cases hgt : at' < (L.getD h (0, 0)).1
      · have hd : decide (at' < (L.getD h (0, 0)).1) = true := decide_eq_true hgt
        rw [hd] at hun
        have HG := Lib.hid hgt
        clear hd hgt
        go_wp2_with (go_at_call 28; refine hun.mono ?_; rintro e w' ⟨rfl, m', rfl⟩)
        go_roundw
        case rel => exact ⟨i, h, hh1, by omega, rfl, by rw [HM.out], HLO.out, fun k h1 h2 => Int.lt_of_lt_of_le HG.out (HS.out.at h1 (by rw [HL.out]; exact h2)), m + m', by first | rfl | rw [World.drewN_drewN]⟩
        case measure => simp [intOf]; omega
      · have hd : decide (at' < (L.getD h (0, 0)).1) = false := decide_eq_false hgt
        rw [hd] at hun
        have HG := Lib.hid hgt
        clear hd hgt
        go_wp2_with (go_at_call 28; refine hun.mono ?_; rintro e w' ⟨rfl, m', rfl⟩)
        go_roundw
        case rel => exact ⟨h + 1, j, by omega, hjn, by rw [← HM.out]; rfl, rfl, fun k hk => by
          have := HS.out.at (show k ≤ h by omega) (by rw [HL.out]; omega)
          have := HG.out
          omega, HHI.out, m + m', by first | rfl | rw [World.drewN_drewN]⟩
        case measure => simp [intOf]; omega
    · have hji : i = j := by omega
      have hres := upto_at at' L i (by rw [HL.out]; omega) HLO.out (fun k h1 h2 => HHI.out k (by omega) (by rw [← HL.out]; exact h2))
      have HR := Lib.hid hres
      clear hres
      go_wp2
      go_ret
      exact ⟨ret_int (by rw [HR.out]), m, rfl⟩

/-- Where a sooner or as soon one ends: until. -/
theorem until_any (w : World) (g : Nat) (B : Nat) (A : Option Addr) (n c : Nat) (L : List (Int × Int)) (at' : Int) (h : Ents w B A n c L) (hn : n ≤ 1000) (hs : Soon L) (hg : w.cell? ⟨g, 0, none⟩ = some (.slice A n c)) :
    Calls Try.prog 18 #[.pointer (some ⟨g, 0, none⟩), .int .i64 at'] w fun e w' => e = .returned (.int .i64 (upto at' L)) ∧ Below w.heap.size w w' := by
  have hgw : g < w.heap.size := block_lt hg
  obtain ⟨W, hW⟩ : ∃ W, W = (w.alloc (.cells #[.pointer (some ⟨g, 0, none⟩)] 27)).alloc (.cells #[.int .i64 at'] 3) := ⟨_, rfl⟩
  have hb : Below w.heap.size w W := by rw [hW]; exact (below_alloc w _).alloc (by simp) _
  have hp : W.cell? ⟨w.heap.size, 0, none⟩ = some (.pointer (some ⟨g, 0, none⟩)) := by
    rw [hW]
    exact ((Holds.new w 27 #[.pointer (some ⟨g, 0, none⟩)]).alloc _).cell 0
  have hq : W.cell? ⟨w.heap.size + 1, 0, none⟩ = some (.int .i64 at') := by
    rw [hW]
    simp
  have hse := search_any W w.heap.size (w.heap.size + 1) g B A n c L at' (h.below hb) hn hs hp hq ((hb.cell (p := ⟨g, 0, none⟩) hgw).trans hg)
  rw [hW] at hse hb
  have HB := Lib.hid hb
  have HG := Lib.hid hg
  clear hW hp hq hb h
  go_enter Try.func18, Try.ntmps18
  go_wp2_with (go_at_call 27; refine hse.mono ?_; rintro e w' ⟨rfl, m, rfl⟩)
  go_ret
  exact ⟨rfl, below_drewN HB.out _⟩

set_option maxHeartbeats 1000000 in
/-- Clone: the same entries in a row of the call's own. -/
theorem clone_any (w : World) (B : Nat) (A : Option Addr) (n c : Nat) (L : List (Int × Int)) (h : Ents w B A n c L) (hn : n ≤ 1000) :
    Calls Try.prog 30 #[.slice A n c] w fun e w' => ∃ A' c', e = .returned (.slice A' n c') ∧ Ents w' w.heap.size A' n c' L ∧ Below w.heap.size w w' := by
  rcases own_open h with ⟨ev, rfl, hx⟩ | ⟨g, cap, cur, ev, hBg, hH, hnc, hcm, hcl, hct⟩
  · simp only [Value.slice.injEq] at ev
    obtain ⟨rfl, _, rfl⟩ := ev
    have hL : L = [] := List.eq_nil_of_length_eq_zero (by have := h.len; omega)
    subst hL
    clear h hx
    have he := fun (W : World) => Lib.run_eql_slice_nil (P := Try.prog) W 24 50 none 0 0 0 0 Try.underlying24
    go_enter Try.func30, Try.ntmps30
    go_wp2
    go_ret
    exact ⟨none, 0, rfl, World.ownsRow_nil _ _ _ _, Below.refl _ _⟩
  · simp only [Value.slice.injEq, true_and] at ev
    obtain ⟨rfl, rfl⟩ := ev
    obtain ⟨i0, hi0, hz0, hz1, hz2⟩ := info_parts ent_info
    obtain ⟨W, hW⟩ : ∃ W, W = w.alloc (.cells #[] 50) := ⟨_, rfl⟩
    have hb : Below w.heap.size w W := by rw [hW]; exact below_alloc w _
    have hnew : W.ownsRow w.heap.size 50 2 (.slice (some ⟨w.heap.size, 0, none⟩) 0 0) 0 [] := by
      rw [hW]; exact World.ownsRow_made w #[] 0 (Nat.le_refl _) (by simp [maxLen]) rfl
    have hsrc : ∀ j u, (ents L)[j]? = some u → W.cell? ((⟨g, 0, none⟩ : Addr).add j) = some u := (h.below hb).cells (g := g) rfl
    obtain ⟨A', c', w1, hr, h2, h3, h4⟩ := run_append_rowK (P := Try.prog) W w.heap.size 24 24 50 i0 _ 2 16 Try.underlying24 hi0 hz0 hz1 hz2 rfl (by decide) _ 0 [] hnew ⟨g, 0, none⟩ n c (ents L) h.1 hsrc (ents_one _) (by unfold maxLen; omega) (by omega) (by rw [hW]; simp)
    rw [Nat.zero_add, List.nil_append] at h2
    rw [Nat.zero_add] at hr
    have hbb : Below w.heap.size w w1 := hb.grown h3 (by rw [hW]; simp) (fun k hk => by simp [Value.ownBlock] at hk; omega)
    have HE := Lib.hid h2
    have HB := Lib.hid hbb
    rw [hW] at hr
    clear h2 h3 h4 hW hb hnew hsrc hbb h hH
    have he := fun (W : World) => Lib.run_eql_slice_nil (P := Try.prog) W 24 50 (some ⟨g, 0, none⟩) n c 0 0 Try.underlying24
    go_enter Try.func30, Try.ntmps30
    go_wp2_with (at_builtin; refine Lib.wpList_append_run _ rfl _ _ _ _ rfl _ _ rfl rfl _ _ hr ?_)
    go_ret
    exact ⟨A', c', rfl, HE.out, HB.out⟩
end Go.Proofs.Ytfpjicmmnhcfcaa

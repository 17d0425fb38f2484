/- The laws' search by halves; maps of one entry; the laws' first call. -/
import Derived.Test.YtkibpialacnlhaaGbD
import Derived.Test.YtkibpialacnlhaaGbE
namespace Go.Proofs.Ytkibpialacnlhaa
open Go.RowKit
set_option linter.unusedVariables false
set_option linter.unusedSimpArgs false

theorem not_reached {c e l o a b g x : Int} (hm : MapOk c e l o a b) (hx : BackIs l o a b g x false) (hg : CanT g) {i : Nat} (hi : i ≤ 1125899906842624) (hlo : ∀ k : Nat, k < i → rawV l o a b k < g) {y : Int} {ok : Bool} (hy : Glob l o a b i y ok) (h : ok = true) : y < g := by
  obtain ⟨i0, h0, hx⟩ := hx.is
  rcases hy.is with ⟨k1, k2, rfl, _⟩ | ⟨_, _, rfl⟩
  · refine Classical.byContradiction fun hn => ?_
    have hl : Least l o a b g i := ⟨by omega, hlo, fun k h1 h2 => by
      have := hm.mono (s := (i : Int)) (t := (k : Int)) (by omega) (by omega) (by omega)
      omega⟩
    obtain rfl := hl.one h0
    rcases hx with ⟨_, _, _, _, hf⟩ | ⟨hn, _⟩
    · cases hf
    · exact hn ⟨hg, k1, k2⟩
  · cases h
set_option maxHeartbeats 1000000 in
theorem reaches_no (c e l o a b h g x : Int) (w : World) (hm : MapOk c e l o a b) (hx : BackIs l o a b g x false) (hg : CanT g) :
    Calls Try.prog 17 #[mapV l o a b h, .int .i64 g] w fun e w' => e = .returned (.bool false) ∧ Below w.heap.size w w' := by
  have HB := Lib.hid (Box.start w 35 #[.int .i64 l, .int .i64 o, .int .i64 a, .int .i64 b, .int .i64 h])
  have HU := Lib.hid (fun (t : Int) (W : World) (h0 : 0 ≤ t) (h1 : t ≤ 1125899906842624) => raw_any c e l o a b h t W hm (by omega) (by omega))
  have HGl := Lib.hid (fun (i : Nat) (hi : i ≤ 1125899906842624) (hlo : ∀ k : Nat, k < i → rawV l o a b k < g) => show ∃ y ok, (ok = true → y < g) ∧ ∀ W, Calls Try.prog 13 #[mapV l o a b h, .int .i64 (i : Int)] W fun e w' => e = .returned (.tuple #[.int .i64 y, .bool ok]) ∧ Below W.heap.size W w' from by
    obtain ⟨y, ok, hy⟩ := glob_ex l o a b i
    exact ⟨y, ok, fun h => not_reached hm hx hg hi hlo hy h, fun W => rglobal_any c e l o a b _ i y ok W hm hy⟩)
  have HM := Lib.hid hm
  unfold mapV at HU HGl ⊢
  obtain ⟨_, g2⟩ := hg
  clear hm hx g2
  go_enter Try.func17, Try.ntmps17
  go_wp2
  go_loopw [5, 6] (fun x y wr => ∃ i j : Nat, i ≤ j ∧ j ≤ 1125899906842624 ∧ x = .int .i64 i ∧ y = .int .i64 j ∧ (∀ k : Nat, k < i → rawV l o a b k < g) ∧ Box w 35 #[.int .i64 l, .int .i64 o, .int .i64 a, .int .i64 b, .int .i64 h] wr) (fun x y _ => (intOf y).toNat - (intOf x).toNat)
  case atStart => exact ⟨0, 1125899906842624, by omega, by omega, rfl, rfl, fun k hk => absurd hk (Nat.not_lt_zero _), HB.out⟩
  case round =>
    obtain ⟨i, j, hij, hjn, rfl, rfl, hlo, hbx⟩ := hrel
    have HLO := Lib.hid hlo
    have HBX := Lib.hid hbx
    obtain ⟨c0, c1, c2, c3, c4, _⟩ := HBX.out.cells5
    clear hlo hbx
    by_cases hlt : i < j
    · obtain ⟨m, hh⟩ : ∃ h, h = (i + j) / 2 := ⟨_, rfl⟩
      have hmid : (m : Int) = ((i : Int) + (j : Int)) / 2 := by omega
      have hh1 : i ≤ m := by omega
      have hh2 : m < j := by omega
      have hun := HU.out (m : Int) wr (by omega) (by omega)
      have HR := Lib.hid (show ∀ R, rawV l o a b (m : Int) = R → (R < g → ∀ k : Nat, k < m + 1 → rawV l o a b k < g) from fun R hR hg k h1 => by
        have := HM.out.mono (s := (k : Int)) (t := (m : Int)) (by omega) (by omega) (by omega)
        omega)
      obtain ⟨R, hR⟩ : ∃ R, rawV l o a b (m : Int) = R := ⟨_, rfl⟩
      have HR2 := Lib.hid (HR.out R hR)
      have hq : ((i : Int) + (j : Int)).tdiv 2 = ((i : Int) + (j : Int)) / 2 := Int.tdiv_eq_ediv_of_nonneg (by omega)
      rw [hR, hmid] at hun
      have HM2 := Lib.hid hmid
      clear hmid hh hR HR
      by_cases hgt : R < g
      · have hd : decide (R < g) = true := decide_eq_true hgt
        have HG := Lib.hid hgt
        clear hgt
        go_wp2_with (go_at_call 18; refine hun.mono ?_; rintro e w' ⟨rfl, hb'⟩; have HB2 := Lib.hid (HBX.out.next hb'); clear hb')
        go_roundw
        case rel => exact ⟨m + 1, j, by omega, hjn, by rw [← HM2.out]; rfl, rfl, HR2.out HG.out, HB2.out⟩
        case measure => simp [intOf]; omega
      · have hd : decide (R < g) = false := decide_eq_false hgt
        have HG := Lib.hid hgt
        clear hgt
        go_wp2_with (go_at_call 18; refine hun.mono ?_; rintro e w' ⟨rfl, hb'⟩; have HB2 := Lib.hid (HBX.out.next hb'); clear hb')
        go_roundw
        case rel => exact ⟨i, m, hh1, by omega, rfl, by rw [HM2.out], HLO.out, HB2.out⟩
        case measure => simp [intOf]; omega
    · have hji : i = j := by omega
      obtain ⟨y, ok, hy, hgl⟩ := HGl.out i (by omega) HLO.out
      have hgl2 := hgl wr
      have hnl : ¬ (i : Int) < (j : Int) := by omega
      clear hgl hji hlt
      cases ok
      · clear hy
        go_wp2_with (go_at_call 13; refine hgl2.mono ?_; rintro e w3 ⟨rfl, hb3⟩; have HB3 := Lib.hid (HBX.out.next hb3); clear hb3)
        go_ret
        exact ⟨rfl, HB3.out.below⟩
      · have hy' := hy rfl
        have hd : decide (g ≤ y) = false := decide_eq_false (by omega)
        clear hy hy'
        go_wp2_with (go_at_call 13; refine hgl2.mono ?_; rintro e w3 ⟨rfl, hb3⟩; have HB3 := Lib.hid (HBX.out.next hb3); clear hb3)
        go_ret
        exact ⟨rfl, HB3.out.below⟩
/-- Of one entry. -/
theorem of_single (d : Int) (e : Ent) : ofV d [e] = (0, 1) := of_flat (by
  show denV (ptsL [e]) = 0
  unfold ptsL denV
  simp [ptO, headE, sumP, pXX, pX])
theorem loc_single (e : Ent) : locV [e] = e.1 := by simp [locV, sumE, entL]
theorem off_single (e : Ent) : offV [e] = e.2.1 := by simp [offV, sumE, entO]
theorem gain_zero (t : Int) : gainV 0 1 t = 0 := by simp [gainV]
theorem raw_single (l o t : Int) : rawV l o 0 1 t = t + o := by unfold rawV; rw [gain_zero]; omega
theorem fill_single {e : Ent} (h : CanE e) : fillL [e] = [e] := by
  show stepL [] e = [e]
  unfold stepL
  rw [if_pos ⟨h, later_nil e⟩]
  rfl
theorem fill_bad {e : Ent} (h : ¬ CanE e) : fillL [e] = [] := by
  show stepL [] e = []
  unfold stepL
  rw [if_neg (fun k => h k.1)]
theorem most_single {e : Ent} (h : CanE e) : mostL [e] = e.2.2 := by
  have := h.h1
  unfold mostL
  simp
  omega
theorem map_single {e : Ent} (h : CanE e) (d : Int) : mapOf d [e] = mapV e.1 e.2.1 0 1 e.2.2 := by
  unfold mapOf
  rw [loc_single, off_single, of_single, most_single h]
theorem ok_single {e : Ent} (h : CanE e) : MapOk 0 1000 e.1 e.2.1 0 1 :=
  ⟨h.l1, h.l2, h.o1, h.o2, ⟨by omega, by omega, by omega, by omega, by omega, by omega, by omega, by omega⟩⟩
theorem least_single {l o : Int} {i : Nat} (h : i ≤ 1125899906842624) : Least l o 0 1 ((i : Int) + o) i :=
  ⟨by omega, fun k hk => by rw [raw_single]; omega, fun k h1 h2 => by rw [raw_single]; omega⟩
/-- A row that was just laid. -/
theorem trow_new {w : World} {g n c : Nat} {t : TypeId} {L : List Ent} (h : Holds w g t (trs L).toArray) (hn : L.length = n) (hc : n ≤ c) (hm : c ≤ maxLen) : TRow w 0 (some ⟨g, 0, none⟩) n c L :=
  ⟨hn, hc, hm, (fun h => by cases h), fun _ => ⟨g, 0, rfl, Nat.zero_le _, h.lt, fun j v hv => by rw [Nat.zero_add, h.cell, List.getElem?_toArray]; exact hv⟩⟩
theorem can_hundred : CanE (100, 50, 3) := ⟨by decide, by decide, by decide, by decide, by decide, by decide⟩
set_option maxHeartbeats 2000000 in
theorem alive_yes (w : World) : Calls Try.prog 8 #[] w fun e w' => e = .returned (.bool true) ∧ Below w.heap.size w w' := by
  have hfill := filled_any _ 0 _ 1 1 [(100, 50, 3)] (trow_new (Holds.new w 50 (trs [(100, 50, 3)]).toArray) rfl (Nat.le_refl _) (by decide)) (by omega)
  rw [fill_single can_hundred] at hfill
  have hglo := fun W => global_any 0 1000 100 50 0 1 3 7 57 true W (ok_single can_hundred) ⟨.inl ⟨by unfold CanT; omega, by rw [raw_single]; unfold CanT; omega, by rw [raw_single]; rfl, rfl⟩⟩
  have hback := fun W => back_any 0 1000 100 50 0 1 3 57 7 true W (ok_single can_hundred) ⟨7, least_single (i := 7) (by omega), .inl ⟨by unfold CanT; omega, by unfold CanT; omega, by rw [raw_single]; unfold CanT; omega, rfl, rfl⟩⟩
  have hof := fun (W : World) (q : Option Addr) (hS : Src W q [(100, 50, 3)]) => globe_some 10 W q _ hS (by simp) (fun e he => by
    simp only [List.mem_cons, List.not_mem_nil, or_false] at he
    subst he
    exact can_hundred)
  rw [map_single can_hundred] at hof
  unfold mapV at hglo hback hof
  have HGl := Lib.hid hglo
  have HBa := Lib.hid hback
  have HOf := Lib.hid hof
  have HB0 := Lib.hid (below_alloc w (.cells (trs [(100, 50, 3)]).toArray 50))
  clear hglo hback hof
  go_enter Try.func8, Try.ntmps8
  go_wp2_with (first
    | (go_at_call 9; refine hfill.mono ?_; rintro e w1 ⟨z, A, c, rfl, ht⟩; have hof := HOf.out w1 _ ht.tab.src; have HB1 := Lib.hid (HB0.out.trans (ht.below.mono HB0.out.size)); clear ht hfill)
    | (go_at_call 10; refine hof.mono ?_; rintro e w2 ⟨rfl, hb2⟩; have HB2 := Lib.hid (HB1.out.trans (hb2.mono HB1.out.size)); have HM2 := Lib.hid (Box.start w2 31 #[.int .i64 100, .int .i64 50, .int .i64 0, .int .i64 1, .int .i64 3]); clear hb2 hof)
    | (go_at_call 12; refine (HGl.out _).mono ?_; rintro e w3 ⟨rfl, hb3⟩; have HM3 := Lib.hid (HM2.out.next hb3); obtain ⟨c0, c1, c2, c3, c4, _⟩ := HM3.out.cells5; clear hb3)
    | (go_at_call 16; refine (HBa.out _).mono ?_; rintro e w4 ⟨rfl, hb4⟩; have HM4 := Lib.hid (HM3.out.next hb4); obtain ⟨d0, d1, d2, d3, d4, _⟩ := HM4.out.cells5; clear hb4))
  go_ret
  exact ⟨rfl, HB2.out.trans (HM4.out.below.mono HB2.out.size)⟩
end Go.Proofs.Ytkibpialacnlhaa

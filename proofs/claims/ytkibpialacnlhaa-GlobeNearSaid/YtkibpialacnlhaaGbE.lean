/- Package globe: Back. -/
import Derived.Test.YtkibpialacnlhaaGbC
namespace Go.Proofs.Ytkibpialacnlhaa
open Go.RowKit
set_option linter.unusedVariables false
set_option linter.unusedSimpArgs false

/-- What a closure over a map and a time has captured; nothing older than w0's was changed. -/
structure Cap (w0 : World) (p q : Nat) (l o a b h g : Int) (w : World) : Prop where
  map : Holds w p 31 #[.int .i64 l, .int .i64 o, .int .i64 a, .int .i64 b, .int .i64 h]
  glo : Holds w q 3 #[.int .i64 g]
  below : Below w0.heap.size w0 w
section
variable {w0 w w' : World} {p q : Nat} {l o a b h g : Int}
theorem Cap.next (c : Cap w0 p q l o a b h g w) (hb : Below w.heap.size w w') : Cap w0 p q l o a b h g w' := ⟨c.map.below hb c.map.lt, c.glo.below hb c.glo.lt, c.below.trans (hb.mono c.below.size)⟩
theorem Cap.here (c : Cap w0 p q l o a b h g w) : Cap w p q l o a b h g w := ⟨c.map, c.glo, Below.refl _ _⟩
theorem Cap.cells (c : Cap w0 p q l o a b h g w) : w.cell? ⟨p, 0, none⟩ = some (.int .i64 l) ∧ w.cell? ⟨p, 1, none⟩ = some (.int .i64 o) ∧ w.cell? ⟨p, 2, none⟩ = some (.int .i64 a) ∧ w.cell? ⟨p, 3, none⟩ = some (.int .i64 b) ∧ w.cell? ⟨p, 4, none⟩ = some (.int .i64 h) ∧ w.cell? ⟨q, 0, none⟩ = some (.int .i64 g) ∧ Cap w0 p q l o a b h g w :=
  ⟨c.map.cell 0, c.map.cell 1, c.map.cell 2, c.map.cell 3, c.map.cell 4, c.glo.cell 0, c⟩
end
set_option maxHeartbeats 1000000 in
theorem back1_any (c e l o a b h g t : Int) (w : World) (p q : Nat) (hm : MapOk c e l o a b) (hc : Cap w p q l o a b h g w) (h0 : 0 ≤ t) (h1 : t ≤ 1125899906842624) :
    Calls Try.prog 34 #[.int .i64 t, .pointer (some ⟨p, 0, none⟩), .pointer (some ⟨q, 0, none⟩)] w fun e w' => e = .returned (.bool (decide (g ≤ rawV l o a b t))) ∧ Below w.heap.size w w' := by
  have hre := fun W => reckon_any c e l o a b h t W hm (by omega) (by omega)
  have HC := Lib.hid hc
  obtain ⟨R, hR⟩ : ∃ R, rawV l o a b t = R := ⟨_, rfl⟩
  unfold mapV at hre
  simp only [hR] at hre ⊢
  clear hm hR hc
  go_enter Try.func34, Try.ntmps34
  go_wp2
  refine region_turns (fun (w' : World) => w'.cell? ⟨p, 0, none⟩ = some (.int .i64 l) ∧ w'.cell? ⟨p, 1, none⟩ = some (.int .i64 o) ∧ w'.cell? ⟨p, 2, none⟩ = some (.int .i64 a) ∧ w'.cell? ⟨p, 3, none⟩ = some (.int .i64 b) ∧ w'.cell? ⟨p, 4, none⟩ = some (.int .i64 h) ∧ w'.cell? ⟨q, 0, none⟩ = some (.int .i64 g) ∧ Cap w p q l o a b h g w') (fun j => decide (6 ≤ j)) (by kernel_rfl) ((HC.out.next (Below.refl _ _).drew).cells) (fun hS => ?_)
  refine Turns.take hS 0 _ rfl (by kernel_rfl) (by kernel_rfl) (by kernel_rfl) (by kernel_rfl) (fun _ _ _ h => h) (by rfl) (fun w' hS' => by (try dsimp only at hS'); go_split_ands; go_simp; (try with_reducible rfl)) ?_
  simp only [Act.put, List.getElem_toArray, List.getElem_cons_succ, List.getElem_cons_zero, List.setIfInBounds_toArray, List.set_cons_zero, List.set_cons_succ]
  refine Turns.take hS 1 _ rfl (by kernel_rfl) (by kernel_rfl) (by kernel_rfl) (by kernel_rfl) (fun _ _ _ h => h) (by rfl) (fun w' hS' => by (try dsimp only at hS'); go_split_ands; go_simp; (try with_reducible rfl)) ?_
  simp only [Act.put, List.getElem_toArray, List.getElem_cons_succ, List.getElem_cons_zero, List.setIfInBounds_toArray, List.set_cons_zero, List.set_cons_succ]
  refine Turns.take hS 3 _ rfl (by kernel_rfl) (by kernel_rfl) (by kernel_rfl) (by kernel_rfl) (fun _ _ _ h => h) (by rfl) (fun w' hS' => by (try dsimp only at hS'); go_split_ands; go_simp; (try with_reducible rfl)) ?_
  simp only [Act.put, List.getElem_toArray, List.getElem_cons_succ, List.getElem_cons_zero, List.setIfInBounds_toArray, List.set_cons_zero, List.set_cons_succ]
  refine Turns.next 2 rfl (by kernel_rfl) (by rfl) (fun K hK => ?_)
  go_simp
  go_at_call 31
  refine (hre _).mono ?_
  rintro e w2 ⟨rfl, hb⟩
  have HE := Lib.hid (hS.2.2.2.2.2.2.next hb)
  refine hK.out _ _ (show (fun (w' : World) => w'.cell? ⟨p, 0, none⟩ = some (.int .i64 l) ∧ w'.cell? ⟨p, 1, none⟩ = some (.int .i64 o) ∧ w'.cell? ⟨p, 2, none⟩ = some (.int .i64 a) ∧ w'.cell? ⟨p, 3, none⟩ = some (.int .i64 b) ∧ w'.cell? ⟨p, 4, none⟩ = some (.int .i64 h) ∧ w'.cell? ⟨q, 0, none⟩ = some (.int .i64 g) ∧ Cap w p q l o a b h g w') _ from HE.out.cells) ?_
  clear hK K hS
  have hS := (show (fun (w' : World) => w'.cell? ⟨p, 0, none⟩ = some (.int .i64 l) ∧ w'.cell? ⟨p, 1, none⟩ = some (.int .i64 o) ∧ w'.cell? ⟨p, 2, none⟩ = some (.int .i64 a) ∧ w'.cell? ⟨p, 3, none⟩ = some (.int .i64 b) ∧ w'.cell? ⟨p, 4, none⟩ = some (.int .i64 h) ∧ w'.cell? ⟨q, 0, none⟩ = some (.int .i64 g) ∧ Cap w p q l o a b h g w') _ from HE.out.cells)
  refine Turns.take hS 4 _ rfl (by kernel_rfl) (by kernel_rfl) (by kernel_rfl) (by kernel_rfl) (fun _ _ _ h => h) (by rfl) (fun w' hS' => by (try dsimp only at hS'); go_split_ands; go_simp; (try with_reducible rfl)) ?_
  simp only [Act.put, List.getElem_toArray, List.getElem_cons_succ, List.getElem_cons_zero, List.setIfInBounds_toArray, List.set_cons_zero, List.set_cons_succ]
  refine Turns.take hS 5 _ rfl (by kernel_rfl) (by kernel_rfl) (by kernel_rfl) (by kernel_rfl) (fun _ _ _ h => h) (by rfl) (fun w' hS' => by (try dsimp only at hS'); go_split_ands; go_simp; (try with_reducible rfl)) ?_
  simp only [Act.put, List.getElem_toArray, List.getElem_cons_succ, List.getElem_cons_zero, List.setIfInBounds_toArray, List.set_cons_zero, List.set_cons_succ]
  refine Turns.rest (late_done (by kernel_rfl)) ?_
  refine any_tail 6 (by rfl) (by kernel_rfl) ?_
  simp only [List.drop_succ_cons, List.drop_zero]
  clear hS
  go_wp2
  go_ret
  exact ⟨rfl, HE.out.below⟩
/-- The least own time at which the other clock's isn't below one; 2^50 + 1, if it is below at all. -/
structure Least (l o a b g : Int) (i : Nat) : Prop where
  le : i ≤ 1125899906842625
  lo : ∀ k : Nat, k < i → rawV l o a b k < g
  hi : ∀ k : Nat, i ≤ k → k < 1125899906842625 → g ≤ rawV l o a b k
theorem Least.one {l o a b g : Int} {i j : Nat} (h : Least l o a b g i) (k : Least l o a b g j) : i = j := by
  rcases Nat.lt_trichotomy i j with hij | hij | hij
  · have h1 := h.hi i (Nat.le_refl _) (by have := k.le; omega)
    have h2 := k.lo i hij
    omega
  · exact hij
  · have h1 := k.hi j (Nat.le_refl _) (by have := h.le; omega)
    have h2 := h.lo j hij
    omega
set_option maxHeartbeats 1000000 in
theorem back_search (c e l o a b h g : Int) (w : World) (p q : Nat) (hm : MapOk c e l o a b) (hc : Cap w p q l o a b h g w) :
    Calls Try.prog 33 #[.int .i64 1125899906842625, .func (.func 34) #[] #[.pointer (some ⟨p, 0, none⟩), .pointer (some ⟨q, 0, none⟩)]] w fun e w' => ∃ i : Nat, e = .returned (.int .i64 (i : Int)) ∧ Least l o a b g i ∧ Below w.heap.size w w' := by
  have hun := fun (t : Int) (W : World) (hC : Cap w p q l o a b h g W) (h0 : 0 ≤ t) (h1 : t ≤ 1125899906842624) => back1_any c e l o a b h g t W p q hm hC.here h0 h1
  have HU := Lib.hid hun
  have HM := Lib.hid hm
  have HC := Lib.hid hc
  clear hun hm hc
  go_enter Try.func33, Try.ntmps33
  go_wp2
  go_loopw [5, 6] (fun x y wr => ∃ i j : Nat, i ≤ j ∧ j ≤ 1125899906842625 ∧ x = .int .i64 i ∧ y = .int .i64 j ∧ (∀ k : Nat, k < i → rawV l o a b k < g) ∧ (∀ k : Nat, j ≤ k → k < 1125899906842625 → g ≤ rawV l o a b k) ∧ Cap w p q l o a b h g wr) (fun x y _ => (intOf y).toNat - (intOf x).toNat)
  case atStart => exact ⟨0, 1125899906842625, by omega, by omega, rfl, rfl, fun k hk => absurd hk (Nat.not_lt_zero _), fun k h1 h2 => absurd h2 (by omega), HC.out⟩
  case round =>
    obtain ⟨i, j, hij, hjn, rfl, rfl, hlo, hhi, hcr⟩ := hrel
    have HLO := Lib.hid hlo
    have HHI := Lib.hid hhi
    have HCR := Lib.hid hcr
    clear hlo hhi hcr
    by_cases hlt : i < j
    · obtain ⟨m, hh⟩ : ∃ h, h = (i + j) / 2 := ⟨_, rfl⟩
      have hmid : (m : Int) = ((i : Int) + (j : Int)) / 2 := by omega
      have hh1 : i ≤ m := by omega
      have hh2 : m < j := by omega
      have hun := HU.out (m : Int) wr HCR.out (by omega) (by omega)
      have HR := Lib.hid (show ∀ R, rawV l o a b (m : Int) = R → (g ≤ R → ∀ k : Nat, m ≤ k → k < 1125899906842625 → g ≤ rawV l o a b k) ∧ (¬ g ≤ R → ∀ k : Nat, k < m + 1 → rawV l o a b k < g) from fun R hR => by
        refine ⟨fun hg k h1 h2 => ?_, fun hg k h1 => ?_⟩
        · have := HM.out.mono (s := (m : Int)) (t := (k : Int)) (by omega) (by omega) (by omega)
          omega
        · have := HM.out.mono (s := (k : Int)) (t := (m : Int)) (by omega) (by omega) (by omega)
          omega)
      obtain ⟨R, hR⟩ : ∃ R, rawV l o a b (m : Int) = R := ⟨_, rfl⟩
      have HR2 := Lib.hid (HR.out R hR)
      rw [hR, hmid] at hun
      have HM2 := Lib.hid hmid
      clear hmid hh hR HR
      by_cases hgt : g ≤ R
      · have hd : decide (g ≤ R) = true := decide_eq_true hgt
        rw [hd] at hun
        have HG := Lib.hid hgt
        clear hd hgt
        go_wp2_with (go_at_call 34; refine hun.mono ?_; rintro e w' ⟨rfl, hb'⟩; have HC2 := Lib.hid (HCR.out.next hb'); clear hb')
        go_roundw
        case rel => exact ⟨i, m, hh1, by omega, rfl, by rw [HM2.out], HLO.out, HR2.out.1 HG.out, HC2.out⟩
        case measure => simp [intOf]; omega
      · have hd : decide (g ≤ R) = false := decide_eq_false hgt
        rw [hd] at hun
        have HG := Lib.hid hgt
        clear hd hgt
        go_wp2_with (go_at_call 34; refine hun.mono ?_; rintro e w' ⟨rfl, hb'⟩; have HC2 := Lib.hid (HCR.out.next hb'); clear hb')
        go_roundw
        case rel => exact ⟨m + 1, j, by omega, hjn, by rw [← HM2.out]; rfl, rfl, HR2.out.2 HG.out, HHI.out, HC2.out⟩
        case measure => simp [intOf]; omega
    · have hji : i = j := by omega
      have HLe := Lib.hid (show Least l o a b g i from ⟨by omega, HLO.out, fun k h1 h2 => HHI.out k (by omega) h2⟩)
      go_wp2
      go_ret
      exact ⟨i, rfl, HLe.out, HCR.out.below⟩
/-- What Back answers. -/
structure BackIs (l o a b g x : Int) (ok : Bool) : Prop where
  is : ∃ i : Nat, Least l o a b g i ∧ ((CanT g ∧ CanT i ∧ CanT (rawV l o a b i) ∧ x = i ∧ ok = true) ∨ (¬ (CanT g ∧ CanT i ∧ CanT (rawV l o a b i)) ∧ x = 0 ∧ ok = false))
theorem least_ex {c e l o a b : Int} (hm : MapOk c e l o a b) (g : Int) : ∃ i, Least l o a b g i := by
  have key : ∀ n : Nat, n ≤ 1125899906842625 → ∃ i : Nat, i ≤ n ∧ (∀ k : Nat, k < i → rawV l o a b k < g) ∧ (∀ k : Nat, i ≤ k → k < n → g ≤ rawV l o a b k) := fun n => by
    induction n with
    | zero => exact fun _ => ⟨0, Nat.le_refl _, fun k hk => absurd hk (Nat.not_lt_zero _), fun k h1 h2 => absurd h2 (Nat.not_lt_zero _)⟩
    | succ n ih =>
      intro hn
      obtain ⟨i, h1, h2, h3⟩ := ih (by omega)
      by_cases hg : g ≤ rawV l o a b n
      · refine ⟨i, by omega, h2, fun k hk1 hk2 => ?_⟩
        by_cases hkn : k < n
        · exact h3 k hk1 hkn
        · obtain rfl : k = n := by omega
          exact hg
      · refine ⟨n + 1, Nat.le_refl _, fun k hk => ?_, fun k h1 h2 => absurd h2 (by omega)⟩
        have := hm.mono (s := (k : Int)) (t := (n : Int)) (by omega) (by omega) (by omega)
        omega
  obtain ⟨i, h1, h2, h3⟩ := key 1125899906842625 (Nat.le_refl _)
  exact ⟨i, h1, h2, h3⟩
theorem back_ex {c e l o a b : Int} (hm : MapOk c e l o a b) (g : Int) : ∃ x ok, BackIs l o a b g x ok := by
  obtain ⟨i, hi⟩ := least_ex hm g
  by_cases h : CanT g ∧ CanT i ∧ CanT (rawV l o a b i)
  · exact ⟨_, _, ⟨i, hi, .inl ⟨h.1, h.2.1, h.2.2, rfl, rfl⟩⟩⟩
  · exact ⟨_, _, ⟨i, hi, .inr ⟨h, rfl, rfl⟩⟩⟩
set_option maxHeartbeats 2000000 in
theorem back_any (c e l o a b h g x : Int) (ok : Bool) (w : World) (hm : MapOk c e l o a b) (hx : BackIs l o a b g x ok) :
    Calls Try.prog 16 #[mapV l o a b h, .int .i64 g] w fun e w' => e = .returned (.tuple #[.int .i64 x, .bool ok]) ∧ Below w.heap.size w w' := by
  obtain ⟨i, hi, hx⟩ := hx.is
  have hC0 : Cap w w.heap.size (w.heap.size + 1) l o a b h g ((w.alloc (.cells #[.int .i64 l, .int .i64 o, .int .i64 a, .int .i64 b, .int .i64 h] 31)).alloc (.cells #[.int .i64 g] 3)) := by
    refine ⟨(Holds.new w _ _).alloc _, ?_, (below_alloc w _).alloc (by simp) _⟩
    have := Holds.new (w.alloc (.cells #[.int .i64 l, .int .i64 o, .int .i64 a, .int .i64 b, .int .i64 h] 31)) 3 #[.int .i64 g]
    rwa [size_alloc] at this
  have HC := Lib.hid hC0
  obtain ⟨c0, c1, c2, c3, c4, c5, _⟩ := HC.out.cells
  have HM := Lib.hid hm
  by_cases h1 : CanT g
  · have ht := time_yes g ((w.alloc (.cells #[.int .i64 l, .int .i64 o, .int .i64 a, .int .i64 b, .int .i64 h] 31)).alloc (.cells #[.int .i64 g] 3)) h1
    have hse := back_search c e l o a b h g _ _ _ hm HC.out.here
    have hgl : ∃ y, Glob l o a b i y ok ∧ (ok = true → x = i) ∧ (ok = false → x = 0) := by
      rcases hx with ⟨_, k1, k2, rfl, rfl⟩ | ⟨hn, rfl, rfl⟩
      · exact ⟨_, ⟨.inl ⟨k1, k2, rfl, rfl⟩⟩, fun _ => rfl, fun k => by cases k⟩
      · exact ⟨0, ⟨.inr ⟨fun k => hn ⟨h1, k⟩, rfl, rfl⟩⟩, (fun k => by cases k), fun _ => rfl⟩
    obtain ⟨y, hy, hx1, hx2⟩ := hgl
    have hglo := fun W => global_any c e l o a b h i y ok W hm hy
    have HG := Lib.hid hglo
    have HI := Lib.hid hi
    unfold mapV at HG ⊢
    clear hglo hm hC0 hx hy hi h1
    cases ok
    case' true =>
      obtain rfl := hx1 rfl
    case' false =>
      obtain rfl := hx2 rfl
    all_goals
      clear hx1 hx2
      go_enter Try.func16, Try.ntmps16
      go_wp2_with (first
        | (go_at_call 30; refine ht.mono ?_; rintro e wx ⟨rfl, hwx⟩; subst wx)
        | (go_at_call 33; refine hse.mono ?_; rintro e w2 ⟨i2, rfl, hi2, hb2⟩; obtain rfl := hi2.one HI.out; have HC2 := Lib.hid (HC.out.next hb2); obtain ⟨d0, d1, d2, d3, d4, d5, _⟩ := HC2.out.cells; clear hb2)
        | (go_at_call 12; refine (HG.out _).mono ?_; rintro e w3 ⟨rfl, hb3⟩; have HC3 := Lib.hid (HC2.out.next hb3); clear hb3))
      go_ret2
      exact ⟨rfl, HC3.out.below⟩
  · have ht := time_no g ((w.alloc (.cells #[.int .i64 l, .int .i64 o, .int .i64 a, .int .i64 b, .int .i64 h] 31)).alloc (.cells #[.int .i64 g] 3)) h1
    obtain ⟨rfl, rfl⟩ : x = 0 ∧ ok = false := by
      rcases hx with ⟨k, _⟩ | ⟨_, k⟩
      · exact absurd k h1
      · exact k
    unfold mapV
    clear hx hm hi hC0
    go_enter Try.func16, Try.ntmps16
    go_wp2_with (go_at_call 30; refine ht.mono ?_; rintro e wx ⟨rfl, hwx⟩; subst wx)
    go_ret2
    exact ⟨rfl, HC.out.below⟩
end Go.Proofs.Ytkibpialacnlhaa

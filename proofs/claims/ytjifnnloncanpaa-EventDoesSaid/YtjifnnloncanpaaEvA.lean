/- Package ring, of events: list; what All goes over. -/
import Derived.Test.YtjifnnloncanpaaEvQ
import Derived.Test.YtjifnnloncanpaaKept
import Derived.Test.YtjifnnloncanpaaPs
import Derived.Lib.SlFresh
namespace Go.Proofs.Ytjifnnloncanpaa.RE
open Go.RowKit Go.Shelf
set_option linter.unusedVariables false
set_option linter.unusedSimpArgs false
attribute [local go_sem] Oper.semAt_some

/-- A row of events of the call's own was answered. -/
def GaveEvs (w : World) (L : List Ev) (e : Ending) (w' : World) : Prop := ∃ A c, e = .returned (.slice A L.length c) ∧ w'.ownsRow w.heap.size 41 8 (.slice A L.length c) L.length (evs L) ∧ Below w.heap.size w w'
theorem room_own (w : World) (n : Nat) (hn : n ≤ 64) : (w.alloc (.cells (evs (List.replicate n evZ)).toArray 41)).ownsRow w.heap.size 41 8 (.slice (some ⟨w.heap.size, 0, none⟩) 0 n) 0 [] :=
  World.ownsRow_made w _ n (Nat.le_refl _) (by unfold maxLen; omega) (by simp [evs_len])
theorem list_nil (w : World) : Calls Try.prog 28 #[.pointer none] w (GaveEvs w []) := by
  have hmk : ∀ w, (Instr.makeSlice 54 (.int .i64 0) (.int .i64 0)).run Try.prog w = .ok (.slice (some ⟨w.heap.size, 0, none⟩) 0 0) (w.alloc (.cells (evs (List.replicate 0 evZ)).toArray 41)) := fun w => make_rows 0 0 (Nat.le_refl _) (by omega) w
  have hl := fun w => len_nil w
  have hend : ∀ w : World, GaveEvs w [] (.returned (.slice (some ⟨w.heap.size, 0, none⟩) 0 0)) (w.alloc (.cells (evs (List.replicate 0 evZ)).toArray 41)) := fun w => ⟨_, _, rfl, room_own w 0 (by omega), below_alloc _ _⟩
  have HEnd := Lib.hid hend
  clear hend
  go_enter Try.func28, Try.ntmps28
  go_wp2_with (go_at_call 22; refine (hl _).mono ?_; rintro e w' ⟨rfl, rfl⟩)
  go_loopw [3, 10] (fun x y wr => x = .slice (some ⟨w'.heap.size, 0, none⟩) 0 0 ∧ y = .int .i64 0 ∧ wr = w'.alloc (.cells (evs (List.replicate 0 evZ)).toArray 41)) (fun _ _ _ => 0)
  case atStart => exact ⟨rfl, rfl, rfl⟩
  case round =>
    obtain ⟨rfl, rfl, rfl⟩ := hrel
    go_wp2
    go_ret
    exact HEnd.out _

theorem snoc_evs {w' : World} {B n k : Nat} {v : Value} {L : List Ev} {z : Ev} (h : w'.ownsRow B 41 8 v n (evs (L.take k) ++ ev8 z)) (hz : L[k]? = some z) : w'.ownsRow B 41 8 v n (evs (L.take (k + 1))) := by
  have : (L.take (k + 1)) = L.take k ++ [z] := by
    obtain ⟨hk, rfl⟩ := List.getElem?_eq_some_iff.1 hz
    rw [List.take_succ_eq_append_getElem hk]
  rw [this, evs_append]
  have e : evs [z] = ev8 z := by rw [evs_cons, evs_nil, List.append_nil]
  rw [e]
  exact h
set_option maxHeartbeats 4000000 in
theorem list_any (w : World) (B g b room : Nat) (L : List Ev) (h : Rg w B g b room L) :
    Calls Try.prog 28 #[.pointer (some ⟨g, 0, none⟩)] w (GaveEvs w L) := by
  obtain ⟨n, hn⟩ : ∃ n, L.length = n := ⟨_, rfl⟩
  have hl := fun (W : World) (hW : Below w.heap.size w W) => len_any W B g b room L (h.below hW)
  simp only [hn] at hl
  have hmk : ∀ W, (Instr.makeSlice 54 (.int .i64 0) (.int .i64 (n : Int))).run Try.prog W = _ := fun w => make_rows n 0 (Nat.zero_le _) (by have := h.len; have := h.fits; omega) w
  have hown := room_own w n (by have := h.len; have := h.fits; omega)
  obtain ⟨first, zs, h⟩ := h
  have HH := Lib.hid h
  have HN := Lib.hid hn
  have hle := h.le
  have hlr := h.len
  rw [hn] at hlr
  have hb0 := below_alloc w (.cells (evs (List.replicate n evZ)).toArray 41)
  have HO := Lib.hid hown
  have HB := Lib.hid hb0
  have hl0 := hl w (Below.refl _ _)
  have hl1 := hl _ hb0
  clear h hn hl hown hb0
  obtain ⟨i0, hi, H0⟩ : ∃ i, Try.prog.info? 41 = some i ∧ i.zero = some (.agg #[.int .i64 0, .string ⟨#[]⟩, .int .i64 0, .int .i64 0, .int .i64 0, .int .i64 0, .int .u16 0, .int .i64 0]) ∧ i.size = 8 ∧ i.bytes = 72 := by
    obtain ⟨i, hi, hzz⟩ := Option.map_eq_some_iff.1 e_info
    simp only [Prod.mk.injEq] at hzz
    exact ⟨i, hi, hzz⟩
  have HI := Lib.hid hi
  have HI0 := Lib.hid H0
  clear hi H0
  go_enter Try.func28, Try.ntmps28
  go_wp2_with (first
    | (go_at_call 22; refine hl0.mono ?_; rintro e w' ⟨rfl, rfl⟩)
    | (go_at_call 22; refine hl1.mono ?_; rintro e w' ⟨rfl, rfl⟩))
  go_loopw [3, 10] (fun x y wr => ∃ (k : Nat) (A : Option Addr) (c : Nat), k ≤ n ∧ x = .slice A k c ∧ y = .int .i64 (k : Int) ∧ wr.ownsRow w'.heap.size 41 8 (.slice A k c) k (evs (L.take k)) ∧ Below w'.heap.size w' wr) (fun _ y _ => n - (intOf y).toNat)
  case atStart => exact ⟨0, _, _, Nat.zero_le _, rfl, rfl, by rw [List.take_zero]; exact HO.out, HB.out⟩
  case round =>
    obtain ⟨k, A, c, hk, rfl, rfl, hown, hb⟩ := hrel
    by_cases hlt : k < n
    · have hR := HH.out.below hb
      obtain ⟨z, hz⟩ : ∃ z, L[k]? = some z := ⟨_, List.getElem?_eq_getElem (by rw [HN.out]; exact hlt)⟩
      have hm : (first + k) % room < room := mod_lt' _ hR.pos
      have hzs : zs[(first + k) % room]? = some z := (hR.at' k (by rw [HN.out]; exact hlt)).trans hz
      have hcl := fun W (hW : Below wr.heap.size wr W) => cell_any W g b room first _ (hR.below hW).ptr hR.pos hR.le hR.fst k (by omega)
      have HCl := Lib.hid hcl
      obtain ⟨I, hI⟩ : ∃ I, (first + k) % room = I := ⟨_, rfl⟩
      rw [hI] at hm hzs HCl
      have HR := Lib.hid hR
      have HO2 := Lib.hid hown
      have HB2 := Lib.hid hb
      have HZ := Lib.hid hz
      have HZS := Lib.hid (evs_at hzs)
      have hc0 := (hR.ptr.drewN 1).cell 0
      clear hR hcl hI hown hb hz hzs HO HB hl0 hl1
      go_upto_region 5 with (fail)
      have hb0 : Below wr.heap.size wr wr.drew := below_drewN (Below.refl _ _) 1
      refine region_turns (fun (w' : World) => w'.cell? ⟨g, 0, none⟩ = some (.slice (some ⟨b, 0, none⟩) room room)) (fun j => decide (12 ≤ j)) (by kernel_rfl) (hc0) (fun hS => ?_)
      refine Turns.take hS 0 _ rfl (by kernel_rfl) (by kernel_rfl) (by kernel_rfl) (by kernel_rfl) (fun _ _ _ h => h) (by rfl) (fun w' hS' => by (try dsimp only at hS'); go_split_ands; go_simp; (try with_reducible rfl)) ?_
      simp only [Act.put, List.getElem_toArray, List.getElem_cons_succ, List.getElem_cons_zero, List.setIfInBounds_toArray, List.set_cons_zero, List.set_cons_succ]
      refine Turns.take hS 1 _ rfl (by kernel_rfl) (by kernel_rfl) (by kernel_rfl) (by kernel_rfl) (fun _ _ _ h => h) (by rfl) (fun w' hS' => by (try dsimp only at hS'); go_split_ands; go_simp; (try with_reducible rfl)) ?_
      simp only [Act.put, List.getElem_toArray, List.getElem_cons_succ, List.getElem_cons_zero, List.setIfInBounds_toArray, List.set_cons_zero, List.set_cons_succ]
      refine Turns.take hS 2 _ rfl (by kernel_rfl) (by kernel_rfl) (by kernel_rfl) (by kernel_rfl) (fun _ _ _ h => h) (by rfl) (fun w' hS' => by (try dsimp only at hS'); go_split_ands; go_simp; (try with_reducible rfl)) ?_
      simp only [Act.put, List.getElem_toArray, List.getElem_cons_succ, List.getElem_cons_zero, List.setIfInBounds_toArray, List.set_cons_zero, List.set_cons_succ]
      refine Turns.take hS 3 _ rfl (by kernel_rfl) (by kernel_rfl) (by kernel_rfl) (by kernel_rfl) (fun _ _ _ h => h) (by rfl) (fun w' hS' => by (try dsimp only at hS'); go_split_ands; go_simp; (try with_reducible rfl)) ?_
      simp only [Act.put, List.getElem_toArray, List.getElem_cons_succ, List.getElem_cons_zero, List.setIfInBounds_toArray, List.set_cons_zero, List.set_cons_succ]
      refine Turns.take hS 4 _ rfl (by kernel_rfl) (by kernel_rfl) (by kernel_rfl) (by kernel_rfl) (fun _ _ _ h => h) (by rfl) (fun w' hS' => by (try dsimp only at hS'); go_split_ands; go_simp; (try with_reducible rfl)) ?_
      simp only [Act.put, List.getElem_toArray, List.getElem_cons_succ, List.getElem_cons_zero, List.setIfInBounds_toArray, List.set_cons_zero, List.set_cons_succ]
      refine Turns.take hS 5 _ rfl (by kernel_rfl) (by kernel_rfl) (by kernel_rfl) (by kernel_rfl) (fun _ _ _ h => h) (by rfl) (fun w' hS' => by (try dsimp only at hS'); go_split_ands; go_simp; (try with_reducible rfl)) ?_
      simp only [Act.put, List.getElem_toArray, List.getElem_cons_succ, List.getElem_cons_zero, List.setIfInBounds_toArray, List.set_cons_zero, List.set_cons_succ]
      refine Turns.take hS 6 _ rfl (by kernel_rfl) (by kernel_rfl) (by kernel_rfl) (by kernel_rfl) (fun _ _ _ h => h) (by rfl) (fun w' hS' => by (try dsimp only at hS'); go_split_ands; go_simp; (try with_reducible rfl)) ?_
      simp only [Act.put, List.getElem_toArray, List.getElem_cons_succ, List.getElem_cons_zero, List.setIfInBounds_toArray, List.set_cons_zero, List.set_cons_succ]
      refine Turns.next 7 rfl (by kernel_rfl) (by rfl) (fun K hK => ?_)
      go_simp
      refine (HCl.out _ hb0).mono ?_
      rintro e w1 ⟨rfl, m1, hw1⟩
      have hb1 : Below wr.heap.size wr w1 := by rw [hw1]; exact below_drewN hb0 m1
      have HR1 := Lib.hid (HR.out.below hb1)
      clear hw1
      refine hK.out _ _ (show (fun (w' : World) => w'.cell? ⟨g, 0, none⟩ = some (.slice (some ⟨b, 0, none⟩) room room)) _ from HR1.out.ptr.cell 0) ?_
      clear hK K hS
      have hS := (show (fun (w' : World) => w'.cell? ⟨g, 0, none⟩ = some (.slice (some ⟨b, 0, none⟩) room room)) _ from HR1.out.ptr.cell 0)
      refine Turns.take hS 8 _ rfl (by kernel_rfl) (by kernel_rfl) (by kernel_rfl) (by kernel_rfl) (fun _ _ _ h => h) (by rfl) (fun w' hS' => by (try dsimp only at hS'); go_split_ands; go_simp; (try with_reducible rfl)) ?_
      simp only [Act.put, List.getElem_toArray, List.getElem_cons_succ, List.getElem_cons_zero, List.setIfInBounds_toArray, List.set_cons_zero, List.set_cons_succ]
      refine Turns.next 9 rfl (by kernel_rfl) (by rfl) (fun K hK => ?_)
      simp only [List.getElem_toArray, List.getElem_cons_succ, List.getElem_cons_zero]
      refine wp_load_in 41 (.tmp 21) rfl b (I * 8) ?hx 41 _ [.int .i64 z.id, .string z.lab, .int .i64 z.loc, .int .i64 z.time, .int .i64 z.hops, .int .i64 z.root, .int .u16 z.boot, .int .i64 z.way] _ HR1.out.row HZS.out Try.underlying41 rfl (ev_size' z) ?_
      case hx => first | rfl | simp [Act.eval, Act.put]
      refine hK.out _ _ (show (fun (w' : World) => w'.cell? ⟨g, 0, none⟩ = some (.slice (some ⟨b, 0, none⟩) room room)) _ from HR1.out.ptr.cell 0) ?_
      clear hK K hS
      have hS := (show (fun (w' : World) => w'.cell? ⟨g, 0, none⟩ = some (.slice (some ⟨b, 0, none⟩) room room)) _ from HR1.out.ptr.cell 0)
      refine Turns.next 10 rfl (by kernel_rfl) (by rfl) (fun K hK => ?_)
      go_simp
      have hba : Below wr.heap.size wr (w1.alloc (.cells #[.int .i64 z.id, .string z.lab, .int .i64 z.loc, .int .i64 z.time, .int .i64 z.hops, .int .i64 z.root, .int .u16 z.boot, .int .i64 z.way] 41)) := hb1.alloc hb1.size _
      have hown1 := own_keepK HO2.out hba
      have hnew : Holds (w1.alloc (.cells #[.int .i64 z.id, .string z.lab, .int .i64 z.loc, .int .i64 z.time, .int .i64 z.hops, .int .i64 z.root, .int .u16 z.boot, .int .i64 z.way] 41)) w1.heap.size 41 (ev8 z).toArray := Holds.new w1 _ _
      obtain ⟨W3, hW3⟩ : ∃ W3, w1.alloc (.cells #[.int .i64 z.id, .string z.lab, .int .i64 z.loc, .int .i64 z.time, .int .i64 z.hops, .int .i64 z.root, .int .u16 z.boot, .int .i64 z.way] 41) = W3 := ⟨_, rfl⟩
      obtain ⟨ne, hne⟩ : ∃ ne, w1.heap.size = ne := ⟨_, rfl⟩
      simp only [hW3, hne] at hba hown1 hnew ⊢
      clear hW3 hne
      have HR3 := Lib.hid (HR.out.below hba)
      obtain ⟨A', c', w2, hrun, hown3, hg3, hp3⟩ := run_append_rowK (P := Try.prog) W3 w'.heap.size 54 54 41 i0 (.agg #[.int .i64 0, .string ⟨#[]⟩, .int .i64 0, .int .i64 0, .int .i64 0, .int .i64 0, .int .u16 0, .int .i64 0]) 8 72 Try.underlying54 HI.out HI0.out.1 HI0.out.2.1 HI0.out.2.2 rfl (by omega) _ k _ hown1 ⟨ne, 0, none⟩ 1 1 (ev8 z) rfl (fun j u hj => by
        rw [Go.WideShapes.add_plain, Nat.zero_add, hnew.cell, List.getElem?_toArray]
        exact hj) (ev8_one z) (by unfold maxLen; omega) (by omega) (Nat.le_trans HB2.out.size hba.size)
      have hbw := Below.grown (HB2.out.trans (hba.mono HB2.out.size)) hg3 (Nat.le_trans HB2.out.size hba.size) (fun q hq => (hown1.lt q hq).1)
      have HBW := Lib.hid hbw
      have HR4 := Lib.hid (HR.out.chg ((Chg.of_below (fun q => w'.heap.size ≤ q) hba).trans (Chg.of_grown (S := fun q => w'.heap.size ≤ q) hg3 (fun q hq => (hown1.lt q hq).1)) (fun _ _ h => h)) (Nat.not_le.2 HH.out.ptr.lt) (Nat.not_le.2 HH.out.row.lt))
      have HO3 := Lib.hid (snoc_evs hown3 HZ.out)
      clear hba hown1 hnew hown3 hg3 hp3 hbw
      refine hK.out _ _ (show (fun (w' : World) => w'.cell? ⟨g, 0, none⟩ = some (.slice (some ⟨b, 0, none⟩) room room)) _ from HR3.out.ptr.cell 0) ?_
      clear hK K hS
      have hS := (show (fun (w' : World) => w'.cell? ⟨g, 0, none⟩ = some (.slice (some ⟨b, 0, none⟩) room room)) _ from HR3.out.ptr.cell 0)
      refine Turns.next 11 rfl (by kernel_rfl) (by rfl) (fun K hK => ?_)
      refine Lib.wp_append_run_sl _ (.tmp 13) (.tmp 23) 54 rfl (.slice A k c) (.slice (some ⟨ne, 0, none⟩) 1 1) rfl rfl hrun ?_
      refine hK.out _ _ (show (fun (w' : World) => w'.cell? ⟨g, 0, none⟩ = some (.slice (some ⟨b, 0, none⟩) room room)) _ from HR4.out.ptr.cell 0) ?_
      clear hK K hS
      have hS := (show (fun (w' : World) => w'.cell? ⟨g, 0, none⟩ = some (.slice (some ⟨b, 0, none⟩) room room)) _ from HR4.out.ptr.cell 0)
      refine Turns.rest (late_done (by kernel_rfl)) ?_
      refine any_tail 12 (by rfl) (by kernel_rfl) ?_
      simp only [List.drop_succ_cons, List.drop_zero]
      clear hS
      go_wp2
      go_roundw
      case rel => exact ⟨k + 1, A', c', by omega, rfl, by go_num, HO3.out, HBW.out⟩
      case measure => simp [intOf]; omega
    · have hkn : k = n := by omega
      have hall : L.take k = L := List.take_of_length_le (by rw [HN.out]; omega)
      subst hkn
      rw [hall] at hown
      have HF := Lib.hid (show GaveEvs w' L (.returned (.slice A k c)) wr from ⟨A, c, by rw [HN.out], by rw [HN.out]; exact hown, hb⟩)
      clear hown hb hall HO HB hl0 hl1
      go_wp2
      go_ret
      exact HF.out

/-- All: the row's pointer is boxed; the function value captures the box. -/
theorem all_any (w : World) (p : Option Addr) :
    Calls Try.prog 26 #[.pointer p] w fun e w' => e = .returned (.func (.func 27) #[] #[.pointer (some ⟨w.heap.size, 0, none⟩)]) ∧ w' = w.alloc (.cells #[.pointer p] 55) := by
  go_enter Try.func26, Try.ntmps26
  go_wp2
  go_ret
  exact ⟨rfl, rfl⟩
/-- An event as All tells it. -/
def evA (x : Ev) : Array Value := #[(.agg #[.int .i64 x.id, .string x.lab, .int .i64 x.loc, .int .i64 x.time, .int .i64 x.hops, .int .i64 x.root, .int .u16 x.boot, .int .i64 x.way])]
theorem evs_own {W : World} {B g n c : Nat} {L : List Ev} (h : W.ownsRow B 41 8 (.slice (some ⟨g, 0, none⟩) n c) n (evs L)) (hn : L.length = n) (h0 : 0 < n) :
    ∃ cur : List Value, Holds W g 41 cur.toArray ∧ B ≤ g ∧ ∀ i x, L[i]? = some x → ∀ j v, (ev8 x)[j]? = some v → cur.toArray[i * 8 + j]? = some v := by
  rcases own_open h with ⟨e1, hn, _⟩ | ⟨g', cap, cur, e1, hB, hH, hnc, hcm, hcl, hct⟩
  · omega
  · simp only [Value.slice.injEq, Option.some.injEq, Addr.mk.injEq, true_and, and_true] at e1
    obtain ⟨rfl, rfl⟩ := e1
    refine ⟨cur, hH, hB, fun i x hx j v hv => ?_⟩
    have h1 := evs_get L i x hx j v hv
    have hi := (List.getElem?_eq_some_iff.1 hx).1
    have hj : j < 8 := (List.getElem?_eq_some_iff.1 hv).1
    rw [← hct, List.getElem?_take, if_pos (by omega)] at h1
    rw [List.getElem?_toArray]
    exact h1
set_option maxRecDepth 100000 in
set_option maxHeartbeats 4000000 in
/-- What goes over a list of its own. -/
theorem all1_over (n : Nat) (hn : 1 ≤ n) (p n₀ : Nat) (q : Option Addr) (L : List Ev) (w : World) (h64 : L.length ≤ 64)
    (hl : ∀ W, Below w.heap.size w W → Calls Try.prog 28 #[.pointer q] W (GaveEvs W L))
    (hp : w.cell? ⟨p, 0, none⟩ = some (.pointer q)) (hn₀ : n₀ ≤ w.heap.size) :
    SeqStopsK Fence.wide n Try.prog 27 #[.pointer (some ⟨p, 0, none⟩)] evA (Kept n₀) (fun ys => ys = L) (fun pre => pre <+: L) L.length w := fun l J Jx W hW hJ hJx hY h0 => by
  have hpw : p < w.heap.size := block_lt hp
  have hp1 : W.cell? ⟨p, 0, none⟩ = some (.pointer q) := (hW.cell (p := ⟨p, 0, none⟩) hpw).trans hp
  have hsz := hW.size
  have hcl := hl W hW
  have H0 := Lib.hid h0
  have HY := Lib.hid hY
  have HJ := Lib.hid hJ
  clear hp hW h0 hY hJ hl
  refine callsIn_of_wp Try.func27 rfl trivial ?_ rfl
  simp only [Try.ntmps27, List.size_toArray, List.length_cons, List.length_nil, Nat.reduceAdd, Nat.reduceSub, Array.replicate_succ, Array.replicate_zero, List.push_toArray, List.append_toArray, List.nil_append, List.cons_append]
  gi_wp2_with (refine ⟨trivial, ?_⟩; gi_at_call 28; refine (callsIn_wide.2 hcl).mono ?_; rintro e W1 ⟨A1, c1, rfl, he1, hb1⟩)
  have hj1 : J [] W1 := HJ.out _ _ _ none H0.out (grown_below hb1) (fun r e => by cases e)
  have HE1 := Lib.hid he1
  have HJ1 := Lib.hid hj1
  have hbW : n₀ ≤ W.heap.size := Nat.le_trans hn₀ hsz
  clear he1 hj1 hb1 H0
  gi_loopw [8] (fun i wr => ∃ k : Nat, k ≤ L.length ∧ i = .int .i64 k ∧ J (L.take k) wr ∧ wr.ownsRow W.heap.size 41 8 (.slice A1 L.length c1) L.length (evs L)) (fun i _ => L.length - (intOf i).toNat)
  case atStart => exact ⟨0, Nat.zero_le _, rfl, by rw [List.take_zero]; exact HJ1.out, HE1.out⟩
  case round =>
    obtain ⟨k, hk, rfl, hJs, hes⟩ := hrel
    by_cases hlt : k < L.length
    · have hform : ∃ g, A1 = some ⟨g, 0, none⟩ := by
        rcases own_open hes with ⟨_, h0, _⟩ | ⟨g, cap, cur, e1, _⟩
        · omega
        · simp only [Value.slice.injEq, true_and] at e1
          exact ⟨g, e1.1⟩
      obtain ⟨q1, rfl⟩ := hform
      obtain ⟨x, hx⟩ : ∃ x, L[k]? = some x := ⟨_, List.getElem?_eq_getElem hlt⟩
      have hnext : L.take (k + 1) = L.take k ++ [x] := by
        rw [List.take_succ_eq_append_getElem hlt]
        rw [List.getElem?_eq_getElem hlt] at hx
        cases hx
        rfl
      obtain ⟨cur, hH, hBq, hat⟩ := evs_own hes rfl (by omega)
      have HAt := Lib.hid (hat k x hx)
      have HH := Lib.hid hH
      have hbA : Below wr.heap.size wr ((wr.alloc (.cells #[.int .i64 0, .string ⟨#[]⟩, .int .i64 0, .int .i64 0, .int .i64 0, .int .i64 0, .int .u16 0, .int .i64 0] 41)).setRow wr.heap.size (ev8 x).toArray) := (elem_new wr 41 (ev8 evZ) (ev8 x)).1
      have hHA : Holds ((wr.alloc (.cells #[.int .i64 0, .string ⟨#[]⟩, .int .i64 0, .int .i64 0, .int .i64 0, .int .i64 0, .int .u16 0, .int .i64 0] 41)).setRow wr.heap.size (ev8 x).toArray) wr.heap.size 41 (ev8 x).toArray := (elem_new wr 41 (ev8 evZ) (ev8 x)).2
      obtain ⟨W2, hW2⟩ : ∃ W2, (wr.alloc (.cells #[.int .i64 0, .string ⟨#[]⟩, .int .i64 0, .int .i64 0, .int .i64 0, .int .i64 0, .int .u16 0, .int .i64 0] 41)).setRow wr.heap.size (ev8 x).toArray = W2 := ⟨_, rfl⟩
      rw [hW2] at hbA hHA
      have HW2 := Lib.hid hW2
      have HHA := Lib.hid hHA
      have hJ2 := HJ.out _ _ _ none hJs (grown_below hbA) (fun r e => by cases e)
      have HE2 := Lib.hid (own_keepK hes hbA)
      have HX := Lib.hid hnext
      obtain ⟨fn, tmps, assign, body, hy, hR⟩ := HY.out (L.take k) x _ hJ2 (by rw [List.length_take]; omega)
      have HR := Lib.hid hR
      have hsz2 : (wr.alloc (.cells #[.int .i64 0, .string ⟨#[]⟩, .int .i64 0, .int .i64 0, .int .i64 0, .int .i64 0, .int .u16 0, .int .i64 0] 41)).heap.size = wr.heap.size + 1 := by simp
      clear hx hnext hJs hes hJ2 hR hat hH hW2 hbA hHA
      change (Instr.yield l #[(.agg #[.int .i64 x.id, .string x.lab, .int .i64 x.loc, .int .i64 x.time, .int .i64 x.hops, .int .i64 x.root, .int .u16 x.boot, .int .i64 x.way])]).run Try.prog _ = _ at hy
      have hload : Holds (wr.alloc (.cells #[.int .i64 0, .string ⟨#[]⟩, .int .i64 0, .int .i64 0, .int .i64 0, .int .i64 0, .int .u16 0, .int .i64 0] 41)) q1 41 cur.toArray := HH.out.alloc _
      gi_wp2_with (first
        | (refine wpListIn_load_at rfl rfl 41 (.tmp 10) rfl q1 (k * 8) rfl 41 _ [.int .i64 x.id, .string x.lab, .int .i64 x.loc, .int .i64 x.time, .int .i64 x.hops, .int .i64 x.root, .int .u16 x.boot, .int .i64 x.way] _ HH.out HAt.out Try.underlying41 rfl (ev_size' x) ?_)
        | (refine wpListIn_store_new rfl rfl 41 (.tmp 4) (.tmp 11) rfl wr.heap.size (ev8 x) rfl rfl 41 (ev8 evZ) (Holds.new wr _ _) (ev_size' x) rfl (ev8_one x) W2 HW2.out ?_)
        | (refine wpListIn_load_at rfl rfl 41 (.tmp 4) rfl wr.heap.size 0 rfl 41 _ [.int .i64 x.id, .string x.lab, .int .i64 x.loc, .int .i64 x.time, .int .i64 x.hops, .int .i64 x.root, .int .u16 x.boot, .int .i64 x.way] _ HHA.out (ev8_at x) Try.underlying41 rfl (ev_size' x) ?_))
      refine HR.out.mono ?_
      rintro e W3 (⟨rfl, hJ3, hk3⟩ | ⟨rfl, hJx3⟩)
      · have HJ3 := Lib.hid hJ3
        have HE3 := Lib.hid (show W3.ownsRow W.heap.size 41 8 (.slice (some ⟨q1, 0, none⟩) L.length c1) L.length (evs L) from by
          refine ⟨HE2.out.1, ?_⟩
          rcases HE2.out.2 with h2 | ⟨g, cap, cur, e, hb, hg, r⟩
          · exact .inl h2
          · exact .inr ⟨g, cap, cur, e, hb, (hk3.2 g _ _ _ (Nat.le_trans hbW hb) hg).trans hg, r⟩)
        clear hJ3 hk3
        gi_wp2
        go_roundw
        case rel => exact ⟨k + 1, by omega, by go_num, by rw [HX.out]; exact HJ3.out, HE3.out⟩
        case measure => simp [intOf]; omega
      · have HJ3 := Lib.hid hJx3
        clear hJx3
        gi_wp2
        refine bodyPost_ret (results_none rfl _ _ _) rfl ?_
        exact ⟨⟨_, rfl⟩, .inr ⟨_, List.take_prefix (k + 1) L, by rw [HX.out]; exact HJ3.out⟩⟩
    · have hkl : k = L.length := by omega
      have hall : L.take k = L := List.take_of_length_le (by omega)
      rw [hall] at hJs
      have HJs := Lib.hid hJs
      clear hkl hall hJs hes
      gi_wp2
      go_end0
      exact ⟨⟨_, rfl⟩, .inl ⟨_, rfl, HJs.out⟩⟩
end Go.Proofs.Ytjifnnloncanpaa.RE

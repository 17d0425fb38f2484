/- Package ether: rows of ears; Step. -/
import Derived.Test.YtgmkmkheknibmaaDoorEtA
import Derived.Laws.MakeOwn
import Derived.Deep.QuietTactic
import Derived.BigQuiet
import Derived.LoopTactic
namespace Go.Proofs.YtgmkmkheknibmaaDoor
open Go.RowKit Go.Shelf
set_option linter.unusedVariables false
set_option linter.unusedSimpArgs false

/-- The cells of a row of ears, told by number. -/
def earCell (f : Nat → Int × Int) (j : Nat) : Int := if j % 2 = 0 then (f (j / 2)).1 else (f (j / 2)).2
def earRow (f : Nat → Int × Int) (n : Nat) : Array Value := ((List.range (n * 2)).map fun j => Value.int .i64 (earCell f j)).toArray
theorem earRow_get (f : Nat → Int × Int) (n j : Nat) : (earRow f n)[j]? = if j < n * 2 then some (.int .i64 (earCell f j)) else none := by
  unfold earRow
  by_cases h : j < n * 2 <;> simp [h]
theorem earRow_from (f : Nat → Int × Int) {n i : Nat} (h : i < n) : (earRow f n)[i * 2]? = some (.int .i64 (f i).1) := by
  rw [earRow_get, if_pos (by omega)]
  unfold earCell
  rw [if_pos (by omega), show i * 2 / 2 = i by omega]
theorem earRow_why (f : Nat → Int × Int) {n i : Nat} (h : i < n) : (earRow f n)[i * 2 + 1]? = some (.int .i64 (f i).2) := by
  rw [earRow_get, if_pos (by omega)]
  unfold earCell
  rw [if_neg (by omega), show (i * 2 + 1) / 2 = i by omega]
theorem earRow_size (f : Nat → Int × Int) (n : Nat) : (earRow f n).size = n * 2 := by simp [earRow]
theorem earRow_ext {f f' : Nat → Int × Int} {n : Nat} (h : ∀ i, i < n → f i = f' i) : earRow f n = earRow f' n := by
  apply Array.ext_getElem?
  intro j
  rw [earRow_get, earRow_get]
  split
  · unfold earCell
    rw [h (j / 2) (by omega)]
  · rfl
def putEar (f : Nat → Int × Int) (i : Nat) (x : Int × Int) : Nat → Int × Int := fun j => if j = i then x else f j
theorem earRow_put (f : Nat → Int × Int) {n i : Nat} (h : i < n) (a b : Int) : ((earRow f n).setIfInBounds (i * 2) (.int .i64 a)).setIfInBounds (i * 2 + 1) (.int .i64 b) = earRow (putEar f i (a, b)) n := by
  apply Array.ext_getElem?
  intro j
  rw [earRow_get, Array.getElem?_setIfInBounds, Array.getElem?_setIfInBounds, earRow_get]
  simp only [Array.size_setIfInBounds, earRow_size]
  by_cases h1 : i * 2 + 1 = j
  · subst h1
    rw [if_pos rfl, if_pos (by omega), if_pos (by omega)]
    unfold earCell putEar
    rw [if_neg (by omega), if_pos (by omega)]
  · rw [if_neg h1]
    by_cases h2 : i * 2 = j
    · subst h2
      rw [if_pos rfl, if_pos (by omega), if_pos (by omega)]
      unfold earCell putEar
      rw [if_pos (by omega), if_pos (by omega)]
    · rw [if_neg h2]
      split
      · have : ¬ j / 2 = i := by omega
        simp [earCell, putEar, this]
      · rfl
theorem ear_info : (Tryd.prog.info? 35).map (fun i => (i.zero.map (·.cells), i.size, i.bytes)) = some (some #[.int .i64 0, .int .i64 0], 2, 16) := by kernel_rfl
theorem make_ears (n : Nat) (hn : n ≤ 64) (w : World) : (Instr.makeSlice 30 (.int .i64 (n : Int)) (.int .i64 (n : Int))).run Tryd.prog w = .ok (.slice (some ⟨w.heap.size, 0, none⟩) n n) (w.alloc (.cells (earRow (fun _ => (0, 0)) n) 35)) := by
  obtain ⟨i, hi, hzz⟩ := Option.map_eq_some_iff.1 ear_info
  simp only [Prod.mk.injEq] at hzz
  obtain ⟨hz, hs, hb⟩ := hzz
  obtain ⟨z, hz1, hz2⟩ := Option.map_eq_some_iff.1 hz
  have hr := run_make (P := Tryd.prog) w 30 35 i z Tryd.underlying30 hi hz1 .i64 .i64 n n (by omega) (Int.le_refl _) (by rw [hb]; omega) (by omega)
  simp only [Int.toNat_natCast] at hr
  rw [hr, hz2, hs]
  have e : madeCells #[Value.int .i64 0, Value.int .i64 0] (n * 2) = earRow (fun _ => (0, 0)) n := by
    apply Array.ext_getElem?
    intro j
    rw [earRow_get]
    by_cases h : j < n * 2
    · have : j % 2 = 0 ∨ j % 2 = 1 := by omega
      rcases this with h1 | h1 <;> simp [madeCells, h, h1, earCell]
    · simp [madeCells, h]
  rw [e]

/-- What the node i hears. -/
def lostB (zs : List Int) (i : Nat) (from_ : Int) : Bool := decide (i < zs.length) && (zs.getD i 0).toNat.testBit from_.toNat
def earV (M : List Nat) (send awake : Nat) (zs : List Int) (i : Nat) : Int × Int :=
  (onlyV (M.getD i 0 &&& send),
    if M.getD i 0 &&& send = 0 then 0 else if send.testBit i then 2 else if awake.testBit i = false then 3 else if onlyV (M.getD i 0 &&& send) < 0 then 4 else if lostB zs i (onlyV (M.getD i 0 &&& send)) then 5 else 1)
theorem oneOf_bit {l : List Nat} (h : ¬ oneOf l < 0) : ∃ j : Nat, l = [j] ∧ oneOf l = j := by
  match l, h with
  | [], h => exact absurd (by decide) h
  | [j], _ => exact ⟨j, rfl, rfl⟩
  | _ :: _ :: _, h => exact absurd (show (-1 : Int) < 0 by decide) h
theorem only_bit {x : Nat} (h : ¬ onlyV x < 0) : ∃ j : Nat, onlyV x = j ∧ j < 64 ∧ bitsOf x = [j] := by
  obtain ⟨j, h1, h2⟩ := oneOf_bit h
  have h3 : j ∈ bitsOf x := by rw [h1]; simp
  exact ⟨j, h2, (mem_bits.1 h3).1, h1⟩
theorem step_nil (w : World) (send awake : Nat) (A : Option Addr) (nl c : Nat) : Calls Tryd.prog 8 #[.pointer none, .int .u64 send, .int .u64 awake, .slice A nl c] w fun e w' => (∃ A c, e = .returned (.slice A 0 c)) ∧ Below w.heap.size w w' := by
  have hmk : (Instr.makeSlice 30 (.int .i64 0) (.int .i64 0)).run Tryd.prog w = _ := make_ears 0 (by omega) w
  go_enter Tryd.func8, Tryd.ntmps8
  go_wp2_with (go_at_call 16; refine (len_nil _).mono ?_; rintro e w' ⟨rfl, hw⟩; subst w')
  go_loopw [18] (fun i wr => i = .int .i64 0 ∧ wr = w.alloc (.cells (earRow (fun _ => (0, 0)) 0) 35)) (fun i _ => 0)
  case atStart => exact ⟨rfl, rfl⟩
  case round =>
    obtain ⟨rfl, rfl⟩ := hrel
    go_wp2
    go_ret
    exact ⟨⟨_, _, rfl⟩, below_alloc _ _⟩
theorem ear_put {W : World} {q n k : Nat} {f : Nat → Int × Int} (h : Holds W q 35 (earRow f n)) (hk : k < n) (a b : Int) :
    W.cell? ⟨q, k * 2, none⟩ = some (.int .i64 (f k).1) ∧ W.frozen? ⟨q, k * 2, none⟩ = false ∧ (W.setCell ⟨q, k * 2, none⟩ (.int .i64 a)).cell? ⟨q, k * 2 + 1, none⟩ = some (.int .i64 (f k).2) ∧
      (W.setCell ⟨q, k * 2, none⟩ (.int .i64 a)).frozen? ⟨q, k * 2 + 1, none⟩ = false ∧ Holds ((W.setCell ⟨q, k * 2, none⟩ (.int .i64 a)).setCell ⟨q, k * 2 + 1, none⟩ (.int .i64 b)) q 35 (earRow (putEar f k (a, b)) n) := by
  have h1 := h.put (k * 2) (.int .i64 a)
  have h2 := h1.put (k * 2 + 1) (.int .i64 b)
  rw [earRow_put f hk] at h2
  refine ⟨?_, h.soft _, ?_, h1.soft _, h2⟩
  · rw [h.cell, earRow_from f hk]
  · rw [h1.cell, Array.getElem?_setIfInBounds_ne (by omega), earRow_why f hk]
/-- An ear is boxed, and its reason is told anew. -/
theorem ear_box (w : World) (a b v : Int) : (w.alloc (.cells #[.int .i64 a, .int .i64 b] 35)).cell? ⟨w.heap.size, 1, none⟩ = some (.int .i64 b) ∧ (w.alloc (.cells #[.int .i64 a, .int .i64 b] 35)).frozen? ⟨w.heap.size, 1, none⟩ = false ∧
    Holds ((w.alloc (.cells #[.int .i64 a, .int .i64 b] 35)).setCell ⟨w.heap.size, 1, none⟩ (.int .i64 v)) w.heap.size 35 #[.int .i64 a, .int .i64 v] := by
  have h := Holds.new w 35 #[.int .i64 a, .int .i64 b]
  exact ⟨h.cell 1, h.soft 1, h.put 1 _⟩
/-- The ears of the first k nodes. -/
def earsTo (M : List Nat) (send awake : Nat) (zs : List Int) (k : Nat) : Nat → Int × Int := fun j => if j < k then earV M send awake zs j else (0, 0)
theorem earsTo_snoc (M : List Nat) (send awake : Nat) (zs : List Int) (k n : Nat) : earRow (putEar (earsTo M send awake zs k) k (earV M send awake zs k)) n = earRow (earsTo M send awake zs (k + 1)) n := earRow_ext fun i _ => by
  unfold putEar earsTo
  by_cases h : i = k
  · subst h
    rw [if_pos rfl, if_pos (by omega)]
  · rw [if_neg h]
    by_cases h2 : i < k
    · rw [if_pos h2, if_pos (by omega)]
    · rw [if_neg h2, if_neg (by omega)]
/-- Between two rounds of Step. -/
structure StepRun (w : World) (q : Nat) (M : List Nat) (send awake : Nat) (zs : List Int) (k : Nat) (W : World) : Prop where
  row : Holds W q 35 (earRow (earsTo M send awake zs k) M.length)
  below : Below w.heap.size w W
theorem StepRun.next {w W w3 W4 : World} {q : Nat} {M : List Nat} {send awake : Nat} {zs : List Int} {k : Nat} {F v : Int} (h : StepRun w q M send awake zs k W) (hq : w.heap.size ≤ q) (hb : Below W.heap.size W w3) (h4 : Below w3.heap.size w3 W4)
    (hlt : k < M.length) (hV : earV M send awake zs k = (F, v)) : ∃ X Y, W4.cell? ⟨q, k * 2, none⟩ = some (.int .i64 X) ∧ W4.frozen? ⟨q, k * 2, none⟩ = false ∧ (W4.setCell ⟨q, k * 2, none⟩ (.int .i64 F)).cell? ⟨q, k * 2 + 1, none⟩ = some (.int .i64 Y) ∧
      (W4.setCell ⟨q, k * 2, none⟩ (.int .i64 F)).frozen? ⟨q, k * 2 + 1, none⟩ = false ∧ StepRun w q M send awake zs (k + 1) ((W4.setCell ⟨q, k * 2, none⟩ (.int .i64 F)).setCell ⟨q, k * 2 + 1, none⟩ (.int .i64 v)) := by
  have h1 := (h.row.below hb h.row.lt)
  have h2 := h1.below h4 h1.lt
  obtain ⟨p1, p2, p3, p4, hp⟩ := ear_put h2 hlt F v
  rw [← hV, earsTo_snoc] at hp
  refine ⟨_, _, p1, p2, p3, p4, ⟨hp, ?_⟩⟩
  have hb1 := h.below.size
  have hb2 := hb.size
  exact ((h.below.trans ((hb.mono hb1).trans (h4.mono (by omega)))).setCell (p := ⟨q, k * 2, none⟩) hq _).setCell (p := ⟨q, k * 2 + 1, none⟩) hq _
set_option maxRecDepth 100000 in
set_option maxHeartbeats 4000000 in
theorem step_any (w : World) (B g r : Nat) (M : List Nat) (h : Lk w B g r M) (hT : Tab w) (send awake : Nat) (hs : send < 18446744073709551616) (ha : awake < 18446744073709551616) (A : Option Addr) (nl c : Nat) (zs : List Int) (hz : IntRow w .u64 A nl c zs) : Calls Tryd.prog 8 #[.pointer (some ⟨g, 0, none⟩), .int .u64 send, .int .u64 awake, .slice A nl c] w fun e w' =>
    ∃ q, e = .returned (.slice (some ⟨q, 0, none⟩) M.length M.length) ∧ w.heap.size ≤ q ∧ Holds w' q 35 (earRow (earV M send awake zs) M.length) ∧ Below w.heap.size w w' := by
  have hmk := make_ears M.length h.le w
  have hlen := len_lk w B g r M h
  go_enter Tryd.func8, Tryd.ntmps8
  go_wp2_with (go_at_call 16; refine hlen.mono ?_; rintro e w' ⟨rfl, hw⟩; subst w')
  have hrun : StepRun w w.heap.size M send awake zs 0 (w.alloc (.cells (earRow (fun _ => (0, 0)) M.length) 35)) :=
    ⟨by rw [earRow_ext (f := earsTo M send awake zs 0) (f' := fun _ => (0, 0)) (fun i _ => by simp [earsTo])]; exact Holds.new w _ _, below_alloc _ _⟩
  have HRun := Lib.hid hrun
  have HL := Lib.hid h
  have HT := Lib.hid hT
  have HZ := Lib.hid hz
  have h64 := h.le
  clear hrun h hT hz hmk hlen
  go_loopw [18] (fun i wr => ∃ k : Nat, k ≤ M.length ∧ i = .int .i64 k ∧ StepRun w w.heap.size M send awake zs k wr) (fun i _ => M.length - (intOf i).toNat)
  case atStart => exact ⟨0, Nat.zero_le _, rfl, HRun.out⟩
  case round =>
    obtain ⟨k, hk, rfl, hrun⟩ := hrel
    clear HRun
    by_cases hlt : k < M.length
    · have L := HL.out.below hrun.below
      have T := HT.out.below hrun.below HT.out.2
      have hnear := near_lk wr B g r M L k
      have eX : nearV M (k : Int) = M.getD k 0 := by
        unfold nearV
        rw [inB_nat]
        simp [hlt]
      rw [eX] at hnear
      have hX := L.get_lt k
      have hand := u64_and_nat (M.getD k 0) send hX hs
      obtain ⟨C, hC⟩ : ∃ C, M.getD k 0 &&& send = C := ⟨_, rfl⟩
      have hCf : C < 18446744073709551616 := by rw [← hC]; exact Nat.lt_of_le_of_lt Nat.and_le_left hX
      rw [hC] at hand
      have honly := only_any wr T C hCf
      have hhs := fun W => ehas_any W send k hs (by omega)
      have hha := fun W => ehas_any W awake k ha (by omega)
      have ew := IntWalk.i64_in ((k : Int) + 1) (by omega)
      have hki : (k : Int) < M.length := by omega
      have eV : earV M send awake zs k = (onlyV C, if C = 0 then 0 else if send.testBit k then 2 else if awake.testBit k = false then 3 else if onlyV C < 0 then 4 else if lostB zs k (onlyV C) then 5 else 1) := by unfold earV; rw [hC]
      obtain ⟨X, hX'⟩ : ∃ X, M.getD k 0 = X := ⟨_, rfl⟩
      rw [hX'] at hnear hand
      obtain ⟨F, hF⟩ : ∃ F, onlyV C = F := ⟨_, rfl⟩
      rw [hF] at honly eV
      have HRn := Lib.hid hrun
      clear hrun L T eX hX hX' hC
      by_cases h0 : C = 0
      · subst h0
        rw [if_pos rfl] at eV
        have honly : Calls Tryd.prog 18 #[.int .u64 0] wr _ := honly
        have hand : bits .and .u64 (X : Int) (send : Int) = 0 := hand
        go_wp2_with (first
          | (go_at_call 17; (with_reducible refine hnear.mono ?_); rintro e w' ⟨rfl, hw⟩; subst w')
          | (go_at_call 18; (with_reducible refine honly.mono ?_); rintro e w3 ⟨rfl, hb3⟩; obtain ⟨_, _, p1, p2, p3, p4, hnx⟩ := HRn.out.next (Nat.le_refl _) hb3 (below_alloc w3 (.cells #[.int .i64 F, .int .i64 0] 35)) hlt eV; have HN := Lib.hid hnx; clear hnx))
        go_roundw
        case rel => exact ⟨k + 1, by omega, by go_num, HN.out⟩
        case measure => simp [intOf]; omega
      · have hz : ((C : Int) == 0) = false := by simp; omega
        rw [if_neg h0] at eV
        rcases hsb : send.testBit k with _ | _
        rotate_left
        · rw [hsb] at hhs eV
          rw [if_pos rfl] at eV
          go_wp2_with (first
            | (go_at_call 17; (with_reducible refine hnear.mono ?_); rintro e w' ⟨rfl, hw⟩; subst w')
            | (go_at_call 18; (with_reducible refine honly.mono ?_); rintro e w3 ⟨rfl, hb3⟩; obtain ⟨_, _, p1, p2, p3, p4, hnx⟩ := HRn.out.next (Nat.le_refl _) hb3 (below_alloc w3 (.cells #[.int .i64 F, .int .i64 2] 35)) hlt eV; have HN := Lib.hid hnx; clear hnx)
            | (go_at_call 19; (with_reducible refine (hhs _).mono ?_); rintro e w' ⟨rfl, hw⟩; subst w')
            | (go_at_call 19; (with_reducible refine (hha _).mono ?_); rintro e w' ⟨rfl, hw⟩; subst w'))
          go_roundw
          case rel => exact ⟨k + 1, by omega, by go_num, HN.out⟩
          case measure => simp [intOf]; omega
        · rw [hsb] at hhs eV
          rw [if_neg (by decide)] at eV
          rcases hab : awake.testBit k with _ | _
          · rw [hab] at hha eV
            rw [if_pos rfl] at eV
            go_wp2_with (first
              | (go_at_call 17; (with_reducible refine hnear.mono ?_); rintro e w' ⟨rfl, hw⟩; subst w')
              | (go_at_call 18; (with_reducible refine honly.mono ?_); rintro e w3 ⟨rfl, hb3⟩; obtain ⟨_, _, p1, p2, p3, p4, hnx⟩ := HRn.out.next (Nat.le_refl _) hb3 (below_alloc w3 (.cells #[.int .i64 F, .int .i64 3] 35)) hlt eV; have HN := Lib.hid hnx; clear hnx)
              | (go_at_call 19; (with_reducible refine (hhs _).mono ?_); rintro e w' ⟨rfl, hw⟩; subst w')
              | (go_at_call 19; (with_reducible refine (hha _).mono ?_); rintro e w' ⟨rfl, hw⟩; subst w'))
            go_roundw
            case rel => exact ⟨k + 1, by omega, by go_num, HN.out⟩
            case measure => simp [intOf]; omega
          · rw [hab] at hha eV
            rw [if_neg (by decide)] at eV
            by_cases hneg : F < 0
            · have dF : decide (F < 0) = true := decide_eq_true hneg
              rw [if_pos hneg] at eV
              go_wp2_with (first
                | (go_at_call 17; (with_reducible refine hnear.mono ?_); rintro e w' ⟨rfl, hw⟩; subst w')
                | (go_at_call 18; (with_reducible refine honly.mono ?_); rintro e w3 ⟨rfl, hb3⟩; obtain ⟨_, _, p1, p2, p3, p4, hnx⟩ := HRn.out.next (Nat.le_refl _) hb3 (below_alloc w3 (.cells #[.int .i64 F, .int .i64 4] 35)) hlt eV; have HN := Lib.hid hnx; clear hnx)
                | (go_at_call 19; (with_reducible refine (hhs _).mono ?_); rintro e w' ⟨rfl, hw⟩; subst w')
                | (go_at_call 19; (with_reducible refine (hha _).mono ?_); rintro e w' ⟨rfl, hw⟩; subst w'))
              go_roundw
              case rel => exact ⟨k + 1, by omega, by go_num, HN.out⟩
              case measure => simp [intOf]; omega
            · have dF : decide (F < 0) = false := decide_eq_false hneg
              rw [if_neg hneg] at eV
              rw [← hF] at hneg
              obtain ⟨J, hJ, hJ64, _⟩ := only_bit hneg
              rw [hF] at hJ hneg
              subst hJ
              have hln := HZ.out.len_eq
              by_cases hkl : k < nl
              · have dl : decide ((k : Int) < (nl : Int)) = true := decide_eq_true (by omega)
                have hki2 : (k : Int) < (nl : Int) := by omega
                obtain ⟨b2, off2, rfl, hb2, hc2⟩ := HZ.out.cell (by omega)
                have hcw := hc2 k hkl
                have hwz := HZ.out.wf (zs.getD k 0) (by
                  rw [List.getD_eq_getElem?_getD, List.getElem?_eq_getElem (by omega)]
                  exact List.getElem_mem _)
                have hZ0 := bounds_u64 hwz
                have hlb : lostB zs k (J : Int) = (zs.getD k 0).toNat.testBit J := by
                  unfold lostB
                  rw [hln]
                  simp [hkl]
                rw [hlb] at eV
                obtain ⟨Z, hZ⟩ : ∃ Z : Nat, zs.getD k 0 = (Z : Int) := ⟨(zs.getD k 0).toNat, by omega⟩
                have hZf : Z < 18446744073709551616 := by omega
                rw [hZ, Int.toNat_natCast] at eV
                rw [hZ] at hcw
                have hhl := fun W => ehas_any W Z J hZf hJ64
                have hcx := fun (W : World) (hb : Below w.heap.size w W) => (hb.cell (p := ⟨b2, off2 + k, none⟩) hb2).trans hcw
                clear hc2 hZ hwz hZ0 hlb hcw
                rcases hlo : Z.testBit J with _ | _
                · rw [hlo, if_neg (by decide)] at eV
                  rw [hlo] at hhl
                  go_wp2_with (first
                    | (go_at_call 17; (with_reducible refine hnear.mono ?_); rintro e w' ⟨rfl, hw⟩; subst w')
                    | (go_at_call 18; (with_reducible refine honly.mono ?_); rintro e w3 ⟨rfl, hb3⟩; have zc := hcx _ ((HRn.out.below.trans (hb3.mono HRn.out.below.size)).alloc (Nat.le_trans HRn.out.below.size hb3.size) (.cells #[.int .i64 (J : Int), .int .i64 1] 35)))
                    | (go_at_call 19; (with_reducible refine (hhs _).mono ?_); rintro e w' ⟨rfl, hw⟩; subst w')
                    | (go_at_call 19; (with_reducible refine (hha _).mono ?_); rintro e w' ⟨rfl, hw⟩; subst w'))
                  go_quiet ((go_at_call 19; exact Calls.quiet_of_same (hhl _)))
                  have hh := (Holds.new w3 35 #[.int .i64 (J : Int), .int .i64 1]).drewN nq
                  obtain ⟨_, _, p1, p2, p3, p4, hnx⟩ := HRn.out.next (Nat.le_refl _) hb3 (below_drewN (below_alloc w3 (.cells #[.int .i64 (J : Int), .int .i64 1] 35)) nq) hlt eV
                  have HN := Lib.hid hnx
                  have c0 := hh.cell 0
                  have c1 := hh.cell 1
                  clear hnx hh
                  go_wp2
                  go_roundw
                  case rel => exact ⟨k + 1, by omega, by go_num, HN.out⟩
                  case measure => simp [intOf]; omega
                · rw [hlo, if_pos rfl] at eV
                  rw [hlo] at hhl
                  go_wp2_with (first
                    | (go_at_call 17; (with_reducible refine hnear.mono ?_); rintro e w' ⟨rfl, hw⟩; subst w')
                    | (go_at_call 18; (with_reducible refine honly.mono ?_); rintro e w3 ⟨rfl, hb3⟩; have zc := hcx _ ((HRn.out.below.trans (hb3.mono HRn.out.below.size)).alloc (Nat.le_trans HRn.out.below.size hb3.size) (.cells #[.int .i64 (J : Int), .int .i64 1] 35)))
                    | (go_at_call 19; (with_reducible refine (hhs _).mono ?_); rintro e w' ⟨rfl, hw⟩; subst w')
                    | (go_at_call 19; (with_reducible refine (hha _).mono ?_); rintro e w' ⟨rfl, hw⟩; subst w'))
                  go_quiet ((go_at_call 19; exact Calls.quiet_of_same (hhl _)))
                  have hh := (Holds.new w3 35 #[.int .i64 (J : Int), .int .i64 1]).drewN nq
                  have hh2 := hh.put 1 (.int .i64 5)
                  obtain ⟨_, _, p1, p2, p3, p4, hnx⟩ := HRn.out.next (Nat.le_refl _) hb3 ((below_drewN (below_alloc w3 (.cells #[.int .i64 (J : Int), .int .i64 1] 35)) nq).setCell (p := ⟨w3.heap.size, 1, none⟩) (Nat.le_refl _) (.int .i64 5)) hlt eV
                  have HN := Lib.hid hnx
                  have c0 := hh.cell 0
                  have c1 := hh.cell 1
                  have f1 := hh.soft 1
                  have d0 := hh2.cell 0
                  have d1 := hh2.cell 1
                  clear hnx hh hh2
                  go_wp2
                  go_roundw
                  case rel => exact ⟨k + 1, by omega, by go_num, HN.out⟩
                  case measure => simp [intOf]; omega
              · have dl : decide ((k : Int) < (nl : Int)) = false := decide_eq_false (by omega)
                have hlb : lostB zs k (J : Int) = false := by
                  unfold lostB
                  simp; omega
                rw [hlb, if_neg (by decide)] at eV
                go_wp2_with (first
                  | (go_at_call 17; (with_reducible refine hnear.mono ?_); rintro e w' ⟨rfl, hw⟩; subst w')
                  | (go_at_call 18; (with_reducible refine honly.mono ?_); rintro e w3 ⟨rfl, hb3⟩)
                  | (go_at_call 19; (with_reducible refine (hhs _).mono ?_); rintro e w' ⟨rfl, hw⟩; subst w')
                  | (go_at_call 19; (with_reducible refine (hha _).mono ?_); rintro e w' ⟨rfl, hw⟩; subst w'))
                go_quiet (fail)
                have hh := (Holds.new w3 35 #[.int .i64 (J : Int), .int .i64 1]).drewN nq
                obtain ⟨_, _, p1, p2, p3, p4, hnx⟩ := HRn.out.next (Nat.le_refl _) hb3 (below_drewN (below_alloc w3 (.cells #[.int .i64 (J : Int), .int .i64 1] 35)) nq) hlt eV
                have HN := Lib.hid hnx
                have c0 := hh.cell 0
                have c1 := hh.cell 1
                clear hnx hh
                go_wp2
                go_roundw
                case rel => exact ⟨k + 1, by omega, by go_num, HN.out⟩
                case measure => simp [intOf]; omega
    · have hkn : k = M.length := by omega
      subst hkn
      have e : earRow (earsTo M send awake zs M.length) M.length = earRow (earV M send awake zs) M.length := earRow_ext fun i hi => by simp [earsTo, hi]
      have hr := hrun.row
      rw [e] at hr
      have HR := Lib.hid hr
      have HB := Lib.hid hrun.below
      clear hr hrun e
      go_wp2
      go_ret
      exact ⟨_, rfl, Nat.le_refl _, HR.out, HB.out⟩
end Go.Proofs.YtgmkmkheknibmaaDoor

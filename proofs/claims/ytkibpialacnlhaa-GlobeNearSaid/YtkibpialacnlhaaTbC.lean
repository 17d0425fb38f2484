/- Package table: what All goes over. -/
import Derived.Test.YtkibpialacnlhaaTbA
import Derived.Test.YtkibpialacnlhaaKept
namespace Go.Proofs.Ytkibpialacnlhaa
open Go.RowKit Go.Shelf
set_option linter.unusedVariables false
set_option linter.unusedSimpArgs false
attribute [local go_sem] Oper.semAt_some

/-- All: the table's pointer is boxed; the function value captures the box. -/
theorem all_any (w : World) (p : Option Addr) :
    Calls Try.prog 37 #[.pointer p] w fun e w' => e = .returned (.func (.func 48) #[] #[.pointer (some ⟨w.heap.size, 0, none⟩)]) ∧ w' = w.alloc (.cells #[.pointer p] 24) := by
  go_enter Try.func37, Try.ntmps37
  go_wp2
  go_ret
  exact ⟨rfl, rfl⟩
/-- A table, or a nil one. -/
def Src (w : World) (q : Option Addr) (L : List Ent) : Prop := (q = none ∧ L = []) ∨ ∃ g o t pre post, q = some ⟨g, o, none⟩ ∧ Tb w g o t pre post L
theorem Src.below {w w' : World} {q : Option Addr} {L : List Ent} (h : Src w q L) (hb : Below w.heap.size w w') : Src w' q L := by
  rcases h with h | ⟨g, o, t, pre, post, e, h⟩
  · exact .inl h
  · exact .inr ⟨g, o, t, pre, post, e, h.below hb⟩
theorem Src.le {w : World} {q : Option Addr} {L : List Ent} (h : Src w q L) : L.length ≤ 8 := by
  rcases h with ⟨_, rfl⟩ | ⟨g, o, t, pre, post, e, h⟩
  · exact Nat.zero_le _
  · exact h.le
theorem Src.nil (w : World) : Src w none [] := .inl ⟨rfl, rfl⟩
theorem Tb.src {w : World} {g o : Nat} {t : TypeId} {pre post : List Value} {L : List Ent} (h : Tb w g o t pre post L) : Src w (some ⟨g, o, none⟩) L := .inr ⟨g, o, t, pre, post, rfl, h⟩

/-- An entry as All tells it. -/
def entA (x : Ent) : Array Value := #[.agg #[.int .i64 x.1, .int .i64 x.2.1, .int .i64 x.2.2]]
theorem tcs_one (K : List Ent) (n : Int) : ∀ v ∈ trs K ++ [Value.int .i64 n], v.oneCell' = true := fun v hv => by
  rcases List.mem_append.1 hv with h | h
  · exact trs_one K v h
  · simp only [List.mem_singleton] at h
    subst h
    rfl
theorem tcs_load {pre post : List Value} {K : List Ent} {n : Int} {o : Nat} (hK : K.length = 8) (ho : pre.length = o) : ∀ j v, (trs K ++ [Value.int .i64 n])[j]? = some v → (tcs pre post K n).toArray[o + j]? = some v := fun j v hv => by
  have hj := (List.getElem?_eq_some_iff.1 hv).1
  unfold tcs
  rw [List.getElem?_toArray, ← ho, get_mid _ _ _ _ hj, hv]
set_option maxRecDepth 100000 in
set_option maxHeartbeats 2000000 in
theorem all1_stops (n : Nat) (hn : 1 ≤ n) (p n₀ : Nat) (q : Option Addr) (L : List Ent) (w : World) (h : Src w q L) (hp : w.cell? ⟨p, 0, none⟩ = some (.pointer q)) (hn₀ : n₀ ≤ w.heap.size) :
    SeqStopsK Fence.wide n Try.prog 48 #[.pointer (some ⟨p, 0, none⟩)] entA (Kept n₀) (fun ys => ys = L) (fun pre => pre <+: L) L.length w := fun l J Jx W hW hJ hJx hY h0 => by
  have hpw : p < w.heap.size := block_lt hp
  have hp1 : W.cell? ⟨p, 0, none⟩ = some (.pointer q) := (hW.cell (p := ⟨p, 0, none⟩) hpw).trans hp
  have hsz := hW.size
  have hS := h.below hW
  have H0 := Lib.hid h0
  have HY := Lib.hid hY
  have HJ := Lib.hid hJ
  clear hp hW h0 hY hJ h
  refine callsIn_of_wp Try.func48 rfl trivial ?_ rfl
  simp only [Try.ntmps48, List.size_toArray, List.length_cons, List.length_nil, Nat.reduceAdd, Nat.reduceSub, Array.replicate_succ, Array.replicate_zero, List.push_toArray, List.append_toArray, List.nil_append, List.cons_append]
  rcases hS with ⟨rfl, rfl⟩ | ⟨g, o, t, pre, post, rfl, K, hT⟩
  · gi_wp2
    refine bodyPost_ret (results_none rfl _ _ _) rfl ?_
    exact ⟨⟨_, rfl⟩, .inl ⟨_, rfl, H0.out⟩⟩
  · have hmid := tcs_mid (n := (L.length : Int)) hT.eight
    have hle := hT.le
    have hle2 : (L.length : Int) ≤ 8 := by omega
    have hal : Try.prog.arrayLen 51 = 8 := by kernel_rfl
    have hnn : (0 : Int) ≤ (L.length : Int) := Int.natCast_nonneg _
    have HLD := Lib.hid (tcs_load (n := (L.length : Int)) (post := post) hT.eight hT.at')
    have HG := Lib.hid hT.holds
    have HM := Lib.hid (show (Try.prog.info? 53).map (·.size) = some (trs K ++ [Value.int .i64 (L.length : Int)]).length by rw [hmid]; kernel_rfl)
    have HM2 := Lib.hid (show (trs K ++ [Value.int .i64 (L.length : Int)]).length = zeroT.length by rw [hmid]; rfl)
    have HO := Lib.hid (tcs_one K (L.length : Int))
    obtain ⟨W1, hW1⟩ : ∃ W1, (W.alloc (.cells zeroT.toArray 53)).setRow W.heap.size (trs K ++ [Value.int .i64 (L.length : Int)]).toArray = W1 := ⟨_, rfl⟩
    have hb1 : Below W.heap.size W W1 := by
      rw [← hW1]
      exact (below_alloc W _).grown (grown_row _ W.heap.size _) (by simp) (fun k e => by cases e; exact Nat.le_refl _)
    have hh1 : Holds W1 W.heap.size 53 (trs K ++ [Value.int .i64 (L.length : Int)]).toArray := by
      rw [← hW1]
      exact (Holds.new W 53 zeroT.toArray).row _
    have hT1 : T0 W1 W.heap.size 0 53 [] [] K L := ⟨rfl, hT.eight, hT.le, hT.is, by unfold tcs; rw [List.nil_append, List.append_nil]; exact hh1⟩
    have hc1 := hT1.count
    rw [Nat.zero_add] at hc1
    have hj1 : J [] W1 := HJ.out _ _ _ none H0.out (grown_below hb1) (fun r e => by cases e)
    have HE1 := Lib.hid hT1
    have HJ1 := Lib.hid hj1
    have HW1 := Lib.hid hW1
    have hbW : n₀ ≤ W.heap.size := Nat.le_trans hn₀ hsz
    obtain ⟨cells, hcells⟩ : ∃ cells, trs K ++ [Value.int .i64 (L.length : Int)] = cells := ⟨_, rfl⟩
    rw [hcells] at HLD HM HM2 HO HW1
    clear hT hmid hcells hh1 hT1 hb1 hj1 hW1 H0
    gi_wp2_with (first
      | (refine wpListIn_load_at rfl rfl 53 (.tmp 9) rfl g o rfl t _ cells _ HG.out HLD.out Try.underlying53 rfl HM.out ?_)
      | (refine wpListIn_store_new rfl rfl 53 (.tmp 3) (.tmp 10) rfl W.heap.size cells rfl rfl 53 zeroT (Holds.new W _ _) HM.out HM2.out HO.out W1 HW1.out ?_))
    clear HLD HG HM HM2 HO HW1 hc1 hal hle2 hnn
    gi_loopw [16] (fun i wr => ∃ k : Nat, k ≤ L.length ∧ i = .int .i64 k ∧ J (L.take k) wr ∧ T0 wr W.heap.size 0 53 [] [] K L) (fun i _ => L.length - (intOf i).toNat)
    case atStart => exact ⟨0, Nat.zero_le _, rfl, by rw [List.take_zero]; exact HJ1.out, HE1.out⟩
    case round =>
      obtain ⟨k, hk, rfl, hJs, hes⟩ := hrel
      by_cases hlt : k < L.length
      · obtain ⟨x, hx⟩ : ∃ x, L[k]? = some x := ⟨_, List.getElem?_eq_getElem hlt⟩
        obtain ⟨q0, q1, q2⟩ := hes.at hx
        rw [Nat.zero_add] at q0 q1 q2
        have hnext : L.take (k + 1) = L.take k ++ [x] := by
          rw [List.take_succ_eq_append_getElem hlt]
          rw [List.getElem?_eq_getElem hlt] at hx
          cases hx
          rfl
        obtain ⟨a, b, c⟩ := x
        dsimp only at q0 q1 q2
        have hJ2 := HJ.out _ _ _ none hJs (World.grownBy_alloc wr (.cells #[.int .i64 a, .int .i64 b, .int .i64 c] 50) none) (fun r e => by cases e)
        have HE2 := Lib.hid (hes.chg (Chg.of_below (fun _ => False) (below_alloc wr (.cells #[.int .i64 a, .int .i64 b, .int .i64 c] 50))) id)
        have HX := Lib.hid hnext
        obtain ⟨fn, tmps, assign, body, hy, hR⟩ := HY.out (L.take k) (a, b, c) _ hJ2 (by rw [List.length_take]; omega)
        have HR := Lib.hid hR
        clear hx hnext hJs hes hJ2 hR
        change (Instr.yield l #[Value.agg #[Value.int .i64 a, Value.int .i64 b, Value.int .i64 c]]).run Try.prog _ = _ at hy
        gi_wp2
        refine HR.out.mono ?_
        rintro e W3 (⟨rfl, hJ3, hk3⟩ | ⟨rfl, hJx3⟩)
        · have HJ3 := Lib.hid hJ3
          have HE3 := Lib.hid (show T0 W3 W.heap.size 0 53 [] [] K L from { HE2.out with holds := HE2.out.holds.kept hk3 hbW })
          clear hJ3 hk3
          gi_wp2
          go_roundw
          case rel => exact ⟨k + 1, by omega, by go_num, by rw [HX.out]; exact HJ3.out, HE3.out⟩
          case measure => simp [intOf]; omega
        · have HJ3 := Lib.hid hJx3
          clear hJx3
          gi_wp2
          refine bodyPost_ret (results_none rfl _ _ _) rfl ?_
          exact ⟨⟨_, rfl⟩, .inr ⟨_, List.take_prefix (k + 1) L, by rw [HX.out]; exact HJ3.out⟩⟩
      · have hkl : k = L.length := by omega
        have hall : L.take k = L := List.take_of_length_le (by omega)
        rw [hall] at hJs
        have HJs := Lib.hid hJs
        clear hkl hall hJs hes
        gi_wp2
        go_end0
        exact ⟨⟨_, rfl⟩, .inl ⟨_, rfl, HJs.out⟩⟩
end Go.Proofs.Ytkibpialacnlhaa

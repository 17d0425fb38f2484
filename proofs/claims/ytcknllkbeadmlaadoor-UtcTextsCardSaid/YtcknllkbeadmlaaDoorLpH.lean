/- Package leap: what All goes over; Range, Ahead, Step. -/
import Derived.Test.YtcknllkbeadmlaaDoorLpC
import Derived.Test.YtcknllkbeadmlaaDoorKept
import Derived.Test.YtcknllkbeadmlaaDoorMarks
import Derived.Test.YtcknllkbeadmlaaDoorRangeBox
namespace Go.Proofs.YtcknllkbeadmlaaDoor
open Go.RowKit Go.Shelf
set_option linter.unusedVariables false
set_option linter.unusedSimpArgs false
attribute [local go_sem] Oper.semAt_some

/-- Cells of blocks below a, and of those from n on, lie as they lay. -/
def KeptO (a n : Nat) (W W' : World) : Prop := W.heap.size ≤ W'.heap.size ∧ ∀ k cs t fr, (k < a ∨ n ≤ k) → W.heap[k]? = some (Obj.cells cs t fr) → W'.heap[k]? = W.heap[k]?
theorem keptO_t {a n : Nat} {A B C : World} (h : KeptO a n A B) (k : KeptO a n B C) : KeptO a n A C :=
  ⟨Nat.le_trans h.1 k.1, fun i cs t fr hi hc => (k.2 i cs t fr hi ((h.2 i cs t fr hi hc).trans hc)).trans (h.2 i cs t fr hi hc)⟩
theorem keptO_b {a n : Nat} (W : World) (l : Nat) (o o' : Obj) (h : W.heap[l]? = some o) (hc : o.isCells = false) (_ : o.isWalk = false) : KeptO a n W (W.putObj l o') := by
  have hg := grownBy_putObj' W l o'
  refine ⟨hg.size, fun k cs t fr hk hcs => hg.block k (Array.getElem?_eq_some_iff.1 hcs).1 (fun e => ?_)⟩
  cases e
  rw [h] at hcs
  simp only [Option.some.injEq] at hcs
  subst hcs
  cases hc
theorem keptO_chg {a n : Nat} {S : Nat → Prop} {w w' : World} (hc : Chg S w w') (hS : ∀ k, S k → a ≤ k ∧ k < n) : KeptO a n w w' := ⟨hc.size, fun k cs t fr hk hcs => hc.block k (Array.getElem?_eq_some_iff.1 hcs).1 (fun e => by have := hS k e; omega)⟩
theorem keptO_below {a n : Nat} {w w' : World} (h : Below w.heap.size w w') : KeptO a n w w' := ⟨h.size, fun k cs t fr _ hcs => h.block k (Array.getElem?_eq_some_iff.1 hcs).1⟩
theorem Holds.keptO {a n : Nat} {W W' : World} {g : Nat} {t : TypeId} {cs : Array Value} (h : Holds W g t cs) (hk : KeptO a n W W') (hn : g < a ∨ n ≤ g) : Holds W' g t cs := (hk.2 g _ _ _ hn h).trans h

/-- A table that is read: all of it lies below a. -/
structure Rt (w : World) (a g : Nat) (T : TB) : Prop where
  lt : g < a
  few : T.lp.length ≤ 1000
  lies : ∃ A c, Holds w g 90 #[.int .i64 T.st, .int .i64 T.ah, .int .i64 T.en, .slice A T.lp.length c] ∧ w.ownsRow 0 63 2 (.slice A T.lp.length c) T.lp.length (prs T.lp) ∧ ∀ z, (Value.slice A T.lp.length c).ownBlock = some z → z < a
theorem Tl.rt {w : World} {B q a : Nat} {T : TB} (h : Tl w B q T) (hn : T.lp.length ≤ 1000) (ha : w.heap.size ≤ a) : Rt w a q T := by
  obtain ⟨hB, A, c, hH, hO⟩ := h
  exact ⟨Nat.lt_of_lt_of_le hH.lt ha, hn, A, c, hH, own_monoK hO (Nat.zero_le _), fun z hz => Nat.lt_of_lt_of_le (hO.lt z hz).2 ha⟩
theorem Rt.keptO {w w' : World} {a n g : Nat} {T : TB} (h : Rt w a g T) (hk : KeptO a n w w') : Rt w' a g T := by
  obtain ⟨hl, hf, A, c, hH, hO, hz⟩ := h
  refine ⟨hl, hf, A, c, hH.keptO hk (.inl hl), ⟨hO.1, ?_⟩, hz⟩
  rcases hO.2 with h2 | ⟨q, cap, cur, he, hB, hg, r⟩
  · exact .inl h2
  · have hq : q < a := hz q (by rw [he]; rfl)
    exact .inr ⟨q, cap, cur, he, hB, (hk.2 q _ _ _ (.inl hq) hg).trans hg, r⟩
theorem Rt.below {w w' : World} {a g : Nat} {T : TB} (h : Rt w a g T) (hb : Below w.heap.size w w') : Rt w' a g T := h.keptO (n := 0) (keptO_below hb)
theorem Rt.mono {w : World} {a a' g : Nat} {T : TB} (h : Rt w a g T) (ha : a ≤ a') : Rt w a' g T := by
  obtain ⟨hl, hf, A, c, hH, hO, hz⟩ := h
  exact ⟨Nat.lt_of_lt_of_le hl ha, hf, A, c, hH, hO, fun z h => Nat.lt_of_lt_of_le (hz z h) ha⟩
/-- A table, or a nil one. -/
def Src (w : World) (a : Nat) (p : Option Addr) (st en : Int) (L : List (Int × Int)) : Prop := (p = none ∧ st = 0 ∧ en = 0 ∧ L = []) ∨ ∃ g T, p = some ⟨g, 0, none⟩ ∧ Rt w a g T ∧ st = T.st ∧ en = T.en ∧ L = T.lp
section
variable {w w' : World} {a : Nat} {p : Option Addr} {st en : Int} {L : List (Int × Int)}
theorem Src.below (h : Src w a p st en L) (hb : Below w.heap.size w w') : Src w' a p st en L := by
  rcases h with h | ⟨g, T, e, h, r⟩
  · exact .inl h
  · exact .inr ⟨g, T, e, h.below hb, r⟩
theorem Src.keptO {n : Nat} (h : Src w a p st en L) (hb : KeptO a n w w') : Src w' a p st en L := by
  rcases h with h | ⟨g, T, e, h, r⟩
  · exact .inl h
  · exact .inr ⟨g, T, e, h.keptO hb, r⟩
theorem Src.mono {a' : Nat} (h : Src w a p st en L) (ha : a ≤ a') : Src w a' p st en L := by
  rcases h with h | ⟨g, T, e, h, r⟩
  · exact .inl h
  · exact .inr ⟨g, T, e, h.mono ha, r⟩
theorem Src.le (h : Src w a p st en L) : L.length ≤ 1000 := by
  rcases h with ⟨_, _, _, rfl⟩ | ⟨g, T, e, h, _, _, rfl⟩
  · exact Nat.zero_le _
  · exact h.few
end
theorem src_nil (w : World) (a : Nat) : Src w a none 0 0 [] := .inl ⟨rfl, rfl, rfl, rfl⟩
theorem Rt.src {w : World} {a g : Nat} {T : TB} (h : Rt w a g T) : Src w a (some ⟨g, 0, none⟩) T.st T.en T.lp := .inr ⟨g, T, rfl, h, rfl, rfl, rfl⟩
theorem range_any (w : World) (a : Nat) (p : Option Addr) (st en : Int) (L : List (Int × Int)) (h : Src w a p st en L) :
    Calls Tryd.prog 62 #[.pointer p] w fun e w' => e = .returned (.tuple #[.int .i64 st, .int .i64 en]) ∧ ∃ n, w' = w.drewN n := by
  rcases h with ⟨rfl, rfl, rfl, rfl⟩ | ⟨g, T, rfl, hr, rfl, rfl, rfl⟩
  · go_enter Tryd.func62, Tryd.ntmps62
    go_wp2
    go_ret2
    exact ⟨rfl, 0, rfl⟩
  · obtain ⟨_, _, A, c, hH, _, _⟩ := hr
    have c0 := hH.cell 0
    have c2 := hH.cell 2
    clear hH
    go_enter Tryd.func62, Tryd.ntmps62
    first
      | (go_wp2; go_ret2; exact ⟨rfl, 0, rfl⟩)
      | (go_upto_region 3 with (fail); go_quiet (fail); go_wp2; go_ret2; exact ⟨rfl, _, rfl⟩)
/-- All: the table's pointer is boxed; the function value captures the box. -/
theorem all_any (w : World) (p : Option Addr) :
    Calls Tryd.prog 63 #[.pointer p] w fun e w' => e = .returned (.func (.func 68) #[] #[.pointer (some ⟨w.heap.size, 0, none⟩)]) ∧ w' = w.alloc (.cells #[.pointer p] 30) := by
  go_enter Tryd.func63, Tryd.ntmps63
  go_wp2
  go_ret
  exact ⟨rfl, rfl⟩
/-- A leap as All tells it. -/
def lpA (x : Int × Int) : Array Value := #[.agg #[.int .i64 x.1, .int .i64 x.2]]
set_option maxRecDepth 100000 in
set_option maxHeartbeats 2000000 in
theorem all1_map {α : Type} (φ : α → Int × Int) (M : List α) (n : Nat) (hn : 1 ≤ n) (p a n₀ : Nat) (q : Option Addr) (st en : Int) (L : List (Int × Int)) (w : World) (h : Src w a q st en L) (hM : M.map φ = L) (hp : w.cell? ⟨p, 0, none⟩ = some (.pointer q)) (hn₀ : n₀ ≤ w.heap.size) :
    SeqStopsK Fence.wide n Tryd.prog 68 #[.pointer (some ⟨p, 0, none⟩)] (fun x => lpA (φ x)) (KeptO a n₀) (fun ys => ys = M) (fun pre => pre <+: M) M.length w := fun l J Jx W hW hJ hJx hY h0 => by
  have hlm : M.length = L.length := by rw [← hM]; simp
  have hpw : p < w.heap.size := block_lt hp
  have hp1 : W.cell? ⟨p, 0, none⟩ = some (.pointer q) := (hW.cell (p := ⟨p, 0, none⟩) hpw).trans hp
  have hsz := hW.size
  have hS := h.below hW
  have H0 := Lib.hid h0
  have HY := Lib.hid hY
  have HJ := Lib.hid hJ
  clear hp hW h0 hY hJ h
  refine callsIn_of_wp Tryd.func68 rfl trivial ?_ rfl
  simp only [Tryd.ntmps68, List.size_toArray, List.length_cons, List.length_nil, Nat.reduceAdd, Nat.reduceSub, Array.replicate_succ, Array.replicate_zero, List.push_toArray, List.append_toArray, List.nil_append, List.cons_append]
  rcases hS with ⟨rfl, _, _, rfl⟩ | ⟨g, T, rfl, hT, _, _, rfl⟩
  · have hM0 : M = [] := List.eq_nil_of_length_eq_zero hlm
    subst hM0
    clear hM hlm
    gi_wp2
    refine bodyPost_ret (results_none rfl _ _ _) rfl ?_
    first | exact ⟨⟨_, rfl⟩, .inl ⟨_, rfl, H0.out⟩⟩ | exact ⟨⟨_, rfl⟩, .inl H0.out⟩
  · have HT := Lib.hid hT
    obtain ⟨_, hfew, A, c, hH, hO, hz⟩ := hT
    have c3 := hH.cell 3
    obtain ⟨L, hL⟩ : ∃ L, T.lp = L := ⟨_, rfl⟩
    simp only [hL] at *
    have HR := Lib.hid (PRow.of_own hO)
    have hRow : ∀ W', KeptO a n₀ W W' → PRow W' A L.length c L := fun W' hk => by
      refine PRow.of_own (e := 63) (B := 0) ⟨hO.1, ?_⟩
      rcases hO.2 with h2 | ⟨q, cap, cur, he, hB, hg, r⟩
      · exact .inl h2
      · exact .inr ⟨q, cap, cur, he, hB, (hk.2 q _ _ _ (.inl (hz q (by rw [he]; rfl))) hg).trans hg, r⟩
    have HRow := Lib.hid hRow
    have HMM := Lib.hid hM
    have HLM := Lib.hid hlm
    clear hH hO hz hRow hL HT hM hlm
    gi_wp2
    gi_loopw [12] (fun i wr => ∃ k : Nat, k ≤ L.length ∧ i = .int .i64 k ∧ J (M.take k) wr ∧ KeptO a n₀ W wr) (fun i _ => L.length - (intOf i).toNat)
    case atStart => exact ⟨0, Nat.zero_le _, rfl, by rw [List.take_zero]; exact H0.out, ⟨Nat.le_refl _, fun _ _ _ _ _ _ => rfl⟩⟩
    case round =>
      obtain ⟨k, hk, rfl, hJs, hks⟩ := hrel
      by_cases hlt : k < L.length
      · have hltM : k < M.length := by rw [HLM.out]; exact hlt
        obtain ⟨z, hz⟩ : ∃ z, M[k]? = some z := ⟨_, List.getElem?_eq_getElem hltM⟩
        have hnext : M.take (k + 1) = M.take k ++ [z] := by
          rw [List.take_succ_eq_append_getElem hltM]
          rw [List.getElem?_eq_getElem hltM] at hz
          cases hz
          rfl
        have hx : L[k]? = some (φ z) := by rw [← HMM.out, List.getElem?_map, hz]; rfl
        obtain ⟨x, y, hxy⟩ : ∃ x y, φ z = (x, y) := ⟨_, _, rfl⟩
        rw [hxy] at hx
        obtain ⟨b, off, rfl, hb, q0, q1⟩ := (HRow.out wr hks).at hx
        have hJ2 := HJ.out _ _ _ none hJs (World.grownBy_alloc wr (.cells #[.int .i64 x, .int .i64 y] 63) none) (fun r e => by cases e)
        have HE2 := Lib.hid (keptO_t hks (keptO_below (below_alloc wr (.cells #[.int .i64 x, .int .i64 y] 63))))
        have HX := Lib.hid hnext
        obtain ⟨fn, tmps, assign, body, hy, hR⟩ := HY.out (M.take k) z _ hJ2 (by rw [List.length_take]; omega)
        rw [hxy] at hy
        have HRR := Lib.hid hR
        clear hx hnext hJs hks hJ2 hR hxy hz hltM
        change (Instr.yield l #[Value.agg #[Value.int .i64 x, Value.int .i64 y]]).run Tryd.prog _ = _ at hy
        gi_wp2
        refine HRR.out.mono ?_
        rintro e W3 (⟨rfl, hJ3, hk3⟩ | ⟨rfl, hJx3⟩)
        · have HJ3 := Lib.hid hJ3
          have HE3 := Lib.hid (keptO_t HE2.out hk3)
          clear hJ3 hk3
          gi_wp2
          go_roundw
          case rel => exact ⟨k + 1, by omega, by go_num, by rw [HX.out]; exact HJ3.out, HE3.out⟩
          case measure => simp [intOf]; omega
        · have HJ3 := Lib.hid hJx3
          clear hJx3
          gi_wp2
          refine bodyPost_ret (results_none rfl _ _ _) rfl ?_
          exact ⟨⟨_, rfl⟩, .inr ⟨_, List.take_prefix (k + 1) M, by rw [HX.out]; exact HJ3.out⟩⟩
      · have hkl : k = L.length := by omega
        have hall : M.take k = M := List.take_of_length_le (by rw [HLM.out]; omega)
        rw [hall] at hJs
        have HJs := Lib.hid hJs
        clear hkl hall hJs hks
        gi_wp2
        go_end0
        exact ⟨⟨_, rfl⟩, .inl ⟨_, rfl, HJs.out⟩⟩
theorem all1_stops (n : Nat) (hn : 1 ≤ n) (p a n₀ : Nat) (q : Option Addr) (st en : Int) (L : List (Int × Int)) (w : World) (h : Src w a q st en L) (hp : w.cell? ⟨p, 0, none⟩ = some (.pointer q)) (hn₀ : n₀ ≤ w.heap.size) :
    SeqStopsK Fence.wide n Tryd.prog 68 #[.pointer (some ⟨p, 0, none⟩)] lpA (KeptO a n₀) (fun ys => ys = L) (fun pre => pre <+: L) L.length w := all1_map (fun x => x) L n hn p a n₀ q st en L w h (List.map_id' L) hp hn₀
/-- As all1_stops; the leaps are told to be the table's. -/
theorem all1_sub (n : Nat) (hn : 1 ≤ n) (p a n₀ : Nat) (q : Option Addr) (st en : Int) (L : List (Int × Int)) (w : World) (h : Src w a q st en L) (hp : w.cell? ⟨p, 0, none⟩ = some (.pointer q)) (hn₀ : n₀ ≤ w.heap.size) :
    SeqStopsK Fence.wide n Tryd.prog 68 #[.pointer (some ⟨p, 0, none⟩)] (fun x : {e // e ∈ L} => lpA x.1) (KeptO a n₀) (fun ys => ys = L.attach) (fun pre => pre <+: L.attach) L.attach.length w := all1_map (fun x : {e // e ∈ L} => x.1) L.attach n hn p a n₀ q st en L w h (List.attach_map_subtype_val L) hp hn₀
end Go.Proofs.YtcknllkbeadmlaaDoor

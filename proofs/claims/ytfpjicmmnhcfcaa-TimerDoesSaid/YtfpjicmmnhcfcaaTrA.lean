/- The document's row of timers: what is due, in any order, each with its turn. -/
import Derived.Test.YtfpjicmmnhcfcaaTmM
import Derived.Test.YtfpjicmmnhcfcaaChg
import Derived.Test.YtfpjicmmnhcfcaaTurn
import Derived.Deep.CutBlock
namespace Go.Proofs.Ytfpjicmmnhcfcaa
open Go.RowKit

/-- One that is due: when, what, and its turn. -/
abbrev One3 := Int × Int × Int
def ones (M : List One3) : List Value := M.flatMap fun e => [.int .i64 e.1, .int .i64 e.2.1, .int .i64 e.2.2]
theorem ones_nil : ones [] = [] := rfl
theorem ones_cons (e : One3) (M : List One3) : ones (e :: M) = .int .i64 e.1 :: .int .i64 e.2.1 :: .int .i64 e.2.2 :: ones M := rfl
theorem ones_append (L M : List One3) : ones (L ++ M) = ones L ++ ones M := by simp [ones]
theorem ones_len : ∀ M : List One3, (ones M).length = M.length * 3
  | [] => rfl
  | e :: M => by rw [ones_cons]; simp [ones_len M]; omega
theorem ones_get : ∀ (M : List One3) (i : Nat), i < M.length → (ones M)[i * 3]? = some (.int .i64 (M.getD i (0, 0, 0)).1) ∧ (ones M)[i * 3 + 1]? = some (.int .i64 (M.getD i (0, 0, 0)).2.1) ∧ (ones M)[i * 3 + 2]? = some (.int .i64 (M.getD i (0, 0, 0)).2.2)
  | e :: M, 0, _ => ⟨rfl, rfl, rfl⟩
  | e :: M, i + 1, h => by
    have := ones_get M i (by simpa using h)
    rw [ones_cons, show (i + 1) * 3 = i * 3 + 1 + 1 + 1 by omega]
    simpa using this
theorem ones_one (M : List One3) : ∀ v ∈ ones M, v.oneCell' = true := by
  intro v hv
  simp [ones] at hv
  obtain ⟨a, b, c, _, rfl | rfl | rfl⟩ := hv <;> rfl
theorem one_info : (Try.prog.info? 54).map (fun i => (i.zero, i.size, i.bytes)) = some (some (.agg #[.int .i64 0, .int .i64 0, .int .i64 0]), 3, 24) := by kernel_rfl
abbrev Ones (w : World) (B : Nat) (A : Option Addr) (n c : Nat) (M : List One3) : Prop := w.ownsRow B 54 3 (.slice A n c) n (ones M)
section
variable {w w' : World} {B : Nat} {A : Option Addr} {n c : Nat} {M : List One3}
theorem Ones.len (h : Ones w B A n c M) : M.length = n := by have := h.1; rw [ones_len] at this; omega
theorem Ones.cap (h : Ones w B A n c M) : n ≤ c ∧ c ≤ maxLen := by
  rcases own_open h with ⟨e, _, _⟩ | ⟨g, cap, cur, e, _, _, h1, h2, _⟩
  · simp only [Value.slice.injEq] at e
    obtain ⟨_, rfl, rfl⟩ := e
    simp [maxLen]
  · simp only [Value.slice.injEq] at e
    obtain ⟨_, _, rfl⟩ := e
    exact ⟨h1, h2⟩
theorem Ones.at (h : Ones w B A n c M) {k : Nat} (hk : k < n) :
    ∃ g, A = some ⟨g, 0, none⟩ ∧ B ≤ g ∧ g < w.heap.size ∧ w.cell? ⟨g, k * 3, none⟩ = some (.int .i64 (M.getD k (0, 0, 0)).1) ∧ w.cell? ⟨g, k * 3 + 1, none⟩ = some (.int .i64 (M.getD k (0, 0, 0)).2.1) ∧ w.cell? ⟨g, k * 3 + 2, none⟩ = some (.int .i64 (M.getD k (0, 0, 0)).2.2) := by
  have hlen := h.len
  rcases own_open h with ⟨_, h0, _⟩ | ⟨g, cap, cur, ev, hB, hH, _, _, hcl, hct⟩
  · omega
  simp only [Value.slice.injEq, true_and] at ev
  obtain ⟨rfl, rfl⟩ := ev
  obtain ⟨e1, e2, e3⟩ := ones_get M k (by omega)
  refine ⟨g, rfl, hB, hH.lt, ?_, ?_, ?_⟩
  · rw [hH.cell, ← e1, ← hct, List.getElem?_take, if_pos (by omega)]
    simp
  · rw [hH.cell, ← e2, ← hct, List.getElem?_take, if_pos (by omega)]
    simp
  · rw [hH.cell, ← e3, ← hct, List.getElem?_take, if_pos (by omega)]
    simp
theorem Ones.below (h : Ones w B A n c M) (hb : Below w.heap.size w w') : Ones w' B A n c M :=
  h.kept (row := none) ⟨hb.os, hb.tape, hb.output, hb.size, fun k hk _ => hb.block k hk⟩ (by cases A <;> simp [Value.ownBlock])
end

/-- The document's row at block g: its list lies in a block of the call's own. -/
def Rr (w : World) (B g : Nat) (v : Value) (M : List One3) (T : Int) : Prop :=
  B ≤ g ∧ M.length ≤ 16 ∧ ∃ A c, v = .slice A M.length c ∧ Holds w g 31 #[v, .int .i64 T] ∧ Ones w B A M.length c M
def Rnow (B g : Nat) (v : Value) (M : List One3) (T : Int) (w w' : World) : Prop :=
  ∃ v', Rr w' B g v' M T ∧ Chg (fun k => k = g) w w' ∧ ∀ k, v'.ownBlock = some k → v.ownBlock = some k ∨ w.heap.size ≤ k
def othersM (what : Int) (M : List One3) : List One3 := M.filter fun e => !decide (e.2.1 = what)

theorem others_take {what : Int} {M : List One3} {k : Nat} (hk : k < M.length) {a b t : Int} (ha : (M.getD k (0, 0, 0)).1 = a) (hb : (M.getD k (0, 0, 0)).2.1 = b) (ht : (M.getD k (0, 0, 0)).2.2 = t) :
    othersM what (M.take (k + 1)) = if b = what then othersM what (M.take k) else othersM what (M.take k) ++ [(a, b, t)] := by
  have he : M[k] = (a, b, t) := by
    have : M.getD k (0, 0, 0) = M[k] := by simp [List.getD, hk]
    rw [this] at ha hb ht
    rw [← ha, ← hb, ← ht]
  rw [List.take_succ_eq_append_getElem hk, he]
  unfold othersM
  rw [List.filter_append]
  by_cases h : b = what
  · rw [if_pos h, List.filter_cons_of_neg (by simpa using h)]
    simp
  · rw [if_neg h, List.filter_cons_of_pos (by simpa using h)]
    simp
set_option maxHeartbeats 2000000 in
theorem others_any (w : World) (B g : Nat) (v : Value) (M : List One3) (T what : Int) (h : Rr w B g v M T) :
    Calls Try.prog 19 #[.pointer (some ⟨g, 0, none⟩), .int .i64 what] w fun e w' =>
      ∃ A c, e = .returned (.slice A (othersM what M).length c) ∧ Ones w' w.heap.size A (othersM what M).length c (othersM what M) ∧ Below w.heap.size w w' := by
  obtain ⟨hBg, h16, A, c, rfl, hh, he⟩ := h
  have hgw := hh.lt
  have c0 := hh.cell 0
  obtain ⟨i0, hi, hz0, hz1, hz2⟩ := info_parts one_info
  have H2 := Lib.hid hz2
  have H1 := Lib.hid hz1
  have H0 := Lib.hid hz0
  have HE := Lib.hid he
  clear hz0 hz1 hz2 hh he
  go_enter Try.func19, Try.ntmps19
  go_wp2
  go_loopw [5, 13] (fun x y wr => ∃ (k : Nat) (A2 : Option Addr) (n2 c2 : Nat), k ≤ M.length ∧ y = .int .i64 k ∧ x = .slice A2 n2 c2 ∧ n2 = (othersM what (M.take k)).length ∧ Ones wr w.heap.size A2 n2 c2 (othersM what (M.take k)) ∧ Below w.heap.size w wr) (fun _ y _ => M.length - (intOf y).toNat)
  case atStart => exact ⟨0, none, 0, 0, Nat.zero_le _, rfl, rfl, rfl, World.ownsRow_nil _ _ _ _, Below.refl _ _⟩
  case round =>
    obtain ⟨k, A2, n2, c2, hk, rfl, rfl, hn2, ho, hb⟩ := hrel
    have hn16 : n2 ≤ 16 := by
      rw [hn2]
      have h1 : (othersM what (M.take k)).length ≤ (M.take k).length := List.length_filter_le _ _
      rw [List.length_take] at h1
      omega
    have HO := Lib.hid ho
    have HB := Lib.hid hb
    have HN := Lib.hid hn2
    clear ho hb hn2
    have hsz := HB.out.size
    by_cases hlt : k < M.length
    · obtain ⟨q, rfl, hBq, hqw, q0, q1, q2⟩ := HE.out.at hlt
      obtain ⟨a, ha⟩ : ∃ a, (M.getD k (0, 0, 0)).1 = a := ⟨_, rfl⟩
      obtain ⟨b, hb⟩ : ∃ b, (M.getD k (0, 0, 0)).2.1 = b := ⟨_, rfl⟩
      obtain ⟨t, ht⟩ : ∃ t, (M.getD k (0, 0, 0)).2.2 = t := ⟨_, rfl⟩
      have hnext := others_take (what := what) hlt ha hb ht
      rw [ha] at q0
      rw [hb] at q1
      rw [ht] at q2
      have c0 : wr.cell? ⟨q, k * 3, none⟩ = some (.int .i64 a) := (HB.out.cell (p := ⟨q, k * 3, none⟩) hqw).trans q0
      have c1 : wr.cell? ⟨q, k * 3 + 1, none⟩ = some (.int .i64 b) := (HB.out.cell (p := ⟨q, k * 3 + 1, none⟩) hqw).trans q1
      have c2' : wr.cell? ⟨q, k * 3 + 2, none⟩ = some (.int .i64 t) := (HB.out.cell (p := ⟨q, k * 3 + 2, none⟩) hqw).trans q2
      clear q0 q1 q2 ha hb ht
      by_cases hw : b = what
      · rw [if_pos hw] at hnext
        have HX := Lib.hid hnext
        have hne : (b != what) = false := by simp [hw]
        clear hnext hw
        go_wp2
        go_roundw
        case rel => exact ⟨k + 1, A2, n2, c2, by omega, by go_num, rfl, by rw [HX.out]; exact HN.out, by rw [HX.out]; exact HO.out.alloc _, HB.out.alloc hsz _⟩
        case measure => simp [intOf]; omega
      · rw [if_neg hw] at hnext
        have HX := Lib.hid hnext
        have hne : (b != what) = true := by simp [hw]
        have hnew := (Holds.new (wr.alloc (.cells #[.int .i64 a, .int .i64 b, .int .i64 t] 54)) 54 #[.int .i64 a, .int .i64 b, .int .i64 t])
        rw [size_alloc] at hnew
        have hsrc : ∀ j u, (ones [(a, b, t)])[j]? = some u → ((wr.alloc (.cells #[.int .i64 a, .int .i64 b, .int .i64 t] 54)).alloc (.cells #[.int .i64 a, .int .i64 b, .int .i64 t] 54)).cell? ((⟨wr.heap.size + 1, 0, none⟩ : Addr).add j) = some u := by
          intro j u hu
          rw [Addr.add_lit, Nat.zero_add, hnew.cell, ← hu]
          simp [ones]
        have HSrc := Lib.hid hsrc
        clear hnext hw hnew hsrc
        go_wp2_with (at_builtin; refine wpList_append_rowK _ rfl (.tmp 21) (.tmp 23) _ rfl w.heap.size 54 i0 _ 3 24 Try.underlying29 hi H0.out H1.out H2.out rfl (by decide) _ n2 _ rfl ((HO.out.alloc _).alloc _) ⟨wr.heap.size + 1, 0, none⟩ 1 1 (ones [(a, b, t)]) rfl rfl HSrc.out (ones_one _) (by unfold maxLen; omega) (by omega) (by simp; omega) ?_; intro A3 c3 w3 hown3 hg3 hp3)
        have hb3 : Below w.heap.size w w3 := (((HB.out.alloc hsz _).alloc (by simp; omega) _).grown hg3 (by simp; omega) (fun q' hq' => (HO.out.lt q' hq').1))
        have HB3 := Lib.hid hb3
        have HO3 := Lib.hid hown3
        clear hb3 hown3 hg3 hp3
        go_roundw
        case rel => exact ⟨k + 1, A3, n2 + 1, c3, by omega, by go_num, rfl, by rw [HX.out, List.length_append, HN.out]; rfl, by rw [HX.out]; unfold Ones; rw [ones_append]; exact HO3.out, HB3.out⟩
        case measure => simp [intOf]; omega
    · have hkl : k = M.length := by omega
      have hall : M.take k = M := List.take_of_length_le (by omega)
      rw [hall] at HO HN
      have hn2 := HN.out
      subst hn2
      clear hall hkl
      go_wp2
      go_ret
      exact ⟨A2, c2, rfl, HO.out, HB.out⟩
end Go.Proofs.Ytfpjicmmnhcfcaa

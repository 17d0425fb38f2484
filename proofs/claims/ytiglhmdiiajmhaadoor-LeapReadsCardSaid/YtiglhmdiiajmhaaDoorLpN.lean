/- Package leap: a table's text, by plain mathematics; dates, signs, lines. -/
import Derived.Test.YtiglhmdiiajmhaaDoorLpM
import Derived.Test.YtiglhmdiiajmhaaDoorPs
import Derived.Test.YtiglhmdiiajmhaaDoorTurn
namespace Go.Proofs.YtiglhmdiiajmhaaDoor
open Go.RowKit
set_option linter.unusedVariables false
set_option linter.unusedSimpArgs false

theorem dates_from (k : Nat) : k ≤ 3652058 → ∃ y m d, CanD y m d ∧ numV y m d = -719162 + (k : Int) := by
  induction k with
  | zero =>
    intro _
    exact ⟨1, 1, 1, ⟨by decide, by decide, by decide, by decide, by decide, by decide⟩, by decide⟩
  | succ k ih =>
    intro hk
    obtain ⟨y, m, d, hc, hn⟩ := ih (by omega)
    have h9 : ¬ 9999 < (nextD y m d).1 := fun h => by
      have := next_far hc h
      omega
    refine ⟨_, _, _, next_can hc h9, ?_⟩
    rw [next_num hc, hn]
    omega
theorem date_ex {n : Int} (h1 : -719162 ≤ n) (h2 : n ≤ 2932896) : ∃ y m d, CanD y m d ∧ numV y m d = n := by
  obtain ⟨y, m, d, hc, hn⟩ := dates_from (n + 719162).toNat (by omega)
  exact ⟨y, m, d, hc, by omega⟩
/-- The text of a day's date. -/
noncomputable def dateB (n : Int) : ByteArray := open Classical in if h : ∃ p : Int × Int × Int, CanD p.1 p.2.1 p.2.2 ∧ numV p.1 p.2.1 p.2.2 = n then textB (Classical.choose h).1 (Classical.choose h).2.1 (Classical.choose h).2.2 else ⟨#[]⟩
theorem dateB_of {y m d : Int} (h : CanD y m d) : dateB (numV y m d) = textB y m d := by
  have hx : ∃ p : Int × Int × Int, CanD p.1 p.2.1 p.2.2 ∧ numV p.1 p.2.1 p.2.2 = numV y m d := ⟨(y, m, d), h, rfl⟩
  unfold dateB
  rw [dif_pos hx]
  have hs := Classical.choose_spec hx
  obtain ⟨e1, e2, e3⟩ := num_same hs.1 h hs.2
  rw [e1, e2, e3]
theorem dateB_size {n : Int} (h1 : -719162 ≤ n) (h2 : n ≤ 2932896) : (dateB n).size = 10 := by
  obtain ⟨y, m, d, hc, rfl⟩ := date_ex h1 h2
  rw [dateB_of hc, text_size]
theorem dayOf_date {n : Int} (h1 : -719162 ≤ n) (h2 : n ≤ 2932896) : dayOf (dateB n) = some n := by
  obtain ⟨y, m, d, hc, rfl⟩ := date_ex h1 h2
  rw [dateB_of hc, dayOf_yes (text_is hc)]
/-- A leap's sign. -/
def signB (s : Int) : ByteArray := if 0 < s then ⟨#[43, 49]⟩ else ⟨#[45, 49]⟩
theorem signB_size (s : Int) : (signB s).size = 2 := by
  unfold signB
  split <;> rfl
/-- The line of words. -/
def lineB (xs : List ByteArray) : ByteArray := ⟨(Lib.join (xs.map (·.data.toList)) [32]).toArray⟩ ++ ⟨#[10]⟩
theorem app_list (a b : ByteArray) : (a ++ b).data.toList = a.data.toList ++ b.data.toList := by
  rw [ByteArray.data_append, Array.toList_append]
theorem app_size (a b : ByteArray) : (a ++ b).size = a.size + b.size := ByteArray.size_append ..
theorem line3 (a b c : ByteArray) : (lineB [a, b, c]).data.toList = a.data.toList ++ 32 :: (b.data.toList ++ 32 :: (c.data.toList ++ [10])) := by
  unfold lineB
  rw [app_list]
  simp [Lib.join, List.intercalate, List.intersperse]
theorem line2 (a b : ByteArray) : (lineB [a, b]).data.toList = a.data.toList ++ 32 :: (b.data.toList ++ [10]) := by
  unfold lineB
  rw [app_list]
  simp [Lib.join, List.intercalate, List.intersperse]
theorem line3_size (a b c : ByteArray) : (lineB [a, b, c]).size = a.size + b.size + c.size + 3 := by
  rw [← size_list, line3]
  simp only [List.length_append, List.length_cons, List.length_nil, size_list]
  omega
theorem line2_size (a b : ByteArray) : (lineB [a, b]).size = a.size + b.size + 2 := by
  rw [← size_list, line2]
  simp only [List.length_append, List.length_cons, List.length_nil, size_list]
  omega
noncomputable def headB (st ah : Int) : ByteArray := lineB [startB, dateB st, decB ah.toNat]
noncomputable def leapLB (e : Int × Int) : ByteArray := lineB [leapB, dateB e.1, signB e.2]
noncomputable def endLB (en : Int) : ByteArray := lineB [endB, dateB en]
noncomputable def leapsT (acc : ByteArray) (L : List (Int × Int)) : ByteArray := L.foldl (fun s e => s ++ leapLB e) acc
/-- A table's text. -/
noncomputable def textT (T : TB) : ByteArray := leapsT (headB T.st T.ah) T.lp ++ endLB T.en
theorem leapsT_snoc (acc : ByteArray) (L : List (Int × Int)) (e : Int × Int) : leapsT acc (L ++ [e]) = leapsT acc L ++ leapLB e := by
  unfold leapsT
  rw [List.foldl_append]
  rfl
theorem leapLB_size {e : Int × Int} (h1 : -719162 ≤ e.1) (h2 : e.1 ≤ 2932896) : (leapLB e).size = 19 := by
  unfold leapLB
  rw [line3_size, dateB_size h1 h2, signB_size]
  rfl
theorem endLB_size {n : Int} (h1 : -719162 ≤ n) (h2 : n ≤ 2932896) : (endLB n).size = 15 := by
  unfold endLB
  rw [line2_size, dateB_size h1 h2]
  rfl
theorem headB_size {st ah : Int} (h1 : -719162 ≤ st) (h2 : st ≤ 2932896) (h3 : 0 ≤ ah) (h4 : ah ≤ 99) : (headB st ah).size ≤ 20 := by
  unfold headB
  rw [line3_size, dateB_size h1 h2, decB_size]
  have := nDigits_le (u := ah.toNat) (k := 2) (by omega) (by omega)
  show 5 + 10 + Lib.nDigits ah.toNat + 3 ≤ 20
  omega
theorem leapsT_size : ∀ (L : List (Int × Int)) (acc : ByteArray), (∀ e ∈ L, -719162 ≤ e.1 ∧ e.1 ≤ 2932896) → (leapsT acc L).size = acc.size + 19 * L.length
  | [], acc, _ => rfl
  | e :: L, acc, h => by
    have he := h e (List.mem_cons_self ..)
    show (leapsT (acc ++ leapLB e) L).size = _
    rw [leapsT_size L _ (fun x hx => h x (List.mem_cons_of_mem _ hx)), app_size, leapLB_size he.1 he.2]
    simp only [List.length_cons]
    omega

theorem date_any (n : Int) (w : World) (h1 : -719162 ≤ n) (h2 : n ≤ 2932896) (hT : Tab w) :
    Calls Tryd.prog 25 #[.int .i64 n] w fun e w' => e = .returned (.string (dateB n)) ∧ Below w.heap.size w w' := by
  obtain ⟨y, m, d, hc, rfl⟩ := date_ex h1 h2
  rw [dateB_of hc]
  have hof := of_yes (numV y m d) w h1 h2
  have hf : Calls Tryd.prog 40 #[.int .i64 (numV y m d)] w fun e w' => e = .returned (.tuple #[.agg #[.int .i64 y, .int .i64 m, .int .i64 d], .bool true]) ∧ Below w.heap.size w w' := by
    refine hof.mono ?_
    rintro e w' ⟨⟨y', m', d', hc', hn, he⟩, hb⟩
    obtain ⟨rfl, rfl, rfl⟩ := num_same hc' hc hn
    exact ⟨he, hb⟩
  have HT := Lib.hid hT
  have HF := Lib.hid hf
  clear hof hf hT
  obtain ⟨N, hN⟩ : ∃ N, numV y m d = N := ⟨_, rfl⟩
  rw [hN] at HF ⊢
  clear hN
  go_enter Tryd.func25, Tryd.ntmps25
  go_wp2_with (first
    | (go_at_call 40; refine HF.out.mono ?_; rintro e w1 ⟨rfl, hb1⟩; have HB := Lib.hid (Box.start w1 73 #[.int .i64 y, .int .i64 m, .int .i64 d]); obtain ⟨c0, c1, c2, _⟩ := HB.out.cells3)
    | (go_at_call 41; refine (text_yes y m d _ hc ((HT.out.below hb1).below HB.out.below)).mono ?_; rintro e w2 ⟨rfl, hb2⟩))
  go_ret
  exact ⟨rfl, hb1.trans ((HB.out.next hb2).below.mono hb1.size)⟩
theorem sign_any (s : Int) (w : World) : Calls Tryd.prog 27 #[.int .i64 s] w fun e w' => e = .returned (.string (signB s)) ∧ w' = w := by
  unfold signB
  by_cases h : 0 < s
  · rw [if_pos h]
    go_enter Tryd.func27, Tryd.ntmps27
    go_wp2
    go_ret
    exact ⟨rfl, rfl⟩
  · rw [if_neg h]
    go_enter Tryd.func27, Tryd.ntmps27
    go_wp2
    go_ret
    exact ⟨rfl, rfl⟩
theorem lineOf_any (w : World) (bk c : Nat) (xs : List ByteArray) (n : Nat) (hn : n = xs.length) (hcells : ∀ (j : Nat) x, xs[j]? = some x → w.cell? ⟨bk, j, none⟩ = some (.string x)) (hbk : bk < w.heap.size) (hcap : xs.length ≤ c) (hl : (lineB xs).size ≤ 1000) (hxl : xs.length ≤ 1000) :
    Calls Tryd.prog 24 #[.slice (some ⟨bk, 0, none⟩) n c] w fun e w' => e = .returned (.string (lineB xs)) ∧ Below w.heap.size w w' := by
  subst hn
  have hl2 := hl
  unfold lineB at hl2
  rw [app_size] at hl2
  have hl3 : (⟨(Lib.join (xs.map (·.data.toList)) [32]).toArray⟩ : ByteArray).size = (Lib.join (xs.map (·.data.toList)) [32]).length := List.size_toArray ..
  rw [hl3] at hl2
  have HJ := Lib.hid (Tryd.strings_Join bk 0 c xs ⟨#[32]⟩ w (fun j x h => by rw [Nat.zero_add]; exact hcells j x h) hbk (by omega) hcap (by show (Lib.join (xs.map (·.data.toList)) [32]).length ≤ _; omega))
  unfold lineB
  have hs : (⟨(Lib.join (xs.map (·.data.toList)) [32]).toArray⟩ : ByteArray).size ≤ 1000 := by omega
  obtain ⟨J, hJ⟩ : ∃ J, (⟨(Lib.join (xs.map (·.data.toList)) [32]).toArray⟩ : ByteArray) = J := ⟨_, rfl⟩
  rw [hJ] at hs ⊢
  have HJJ := Lib.hid hJ
  clear hJ hl hl2 hl3 hxl
  go_enter Tryd.func24, Tryd.ntmps24
  go_wp2_with (go_at_call 39; refine HJ.out.mono ?_; rintro e w1 ⟨rfl, hb⟩; rw [show (⟨(Lib.join (xs.map (·.data.toList)) (⟨#[32]⟩ : ByteArray).data.toList).toArray⟩ : ByteArray) = J from HJJ.out])
  go_ret
  exact ⟨rfl, hb⟩
end Go.Proofs.YtiglhmdiiajmhaaDoor

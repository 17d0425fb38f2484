/- Package elect: a word is heard. -/
import Derived.Test.YtpcbbpcibmpopaaElB
import Derived.Test.YtpcbbpcibmpopaaTurn
import Derived.Deep.CutBlock
namespace Go.Proofs.Ytpcbbpcibmpopaa
open Go.RowKit
set_option linter.unusedVariables false
set_option linter.unusedSimpArgs false

/-- What Hear answers, and what becomes of the node. -/
def Heard (B g b n : Nat) (s : St) (r x q : Int) (w : World) (e : Ending) (w' : World) : Prop := e = .returned (.int .i64 (hearV s r x q)) ∧ Now B g b (n + 1) (hearS s r x q) w w'
theorem hear_nil (w : World) (r x q : Int) : Calls Try.prog 16 #[.pointer none, .int .i64 r, .agg #[.int .u16 x, .int .u16 q]] w fun e w' => e = .returned (.int .i64 0) ∧ Below w.heap.size w w' := by
  have hb : Below w.heap.size w (w.alloc (.cells #[.int .u16 x, .int .u16 q] 33)) := below_alloc w _
  go_enter Try.func16, Try.ntmps16
  go_wp2
  go_ret
  exact ⟨rfl, hb⟩
/-- A word is refused. -/
theorem hear_no {B g b n : Nat} {s : St} {r x q : Int} (w w' : World) (h : En w B g b n s) (ht : takeB s r x q = false) (hb : Below w.heap.size w w') : Heard B g b n s r x q w (.returned (.int .i64 0)) w' := by
  unfold Heard hearV hearS
  rw [ht]
  exact ⟨rfl, ((Now.refl h).of_below hb).mono (Nat.le_succ n)⟩
/-- A word is taken. -/
theorem hear_yes {B g b n : Nat} {s : St} {r x q v : Int} {w u w1 : World} (h : En w B g b n s) (hx : F16 x) (hq : F16 q) (ht : takeB s r x q = true) (hv : (if movB s r x = true then 2 else 1) = v) (hb : Below w.heap.size w u)
    (hk : KM w1 b (n + 1) (fun i => if i = r then some (x, q) else s.f i)) (hg : u.grownBy w1 (some b)) : Heard B g b n s r x q w (.returned (.int .i64 v)) ((w1.setCell ⟨g, 5, none⟩ (.int .i64 r)).setCell ⟨g, 6, none⟩ (.int .i64 0)) := by
  have hi := h.inv.hear (r := r) hx hq
  unfold Heard hearV
  unfold hearS at hi ⊢
  rw [ht] at hi ⊢
  simp only [if_pos] at hi ⊢
  have hne := h.ne
  have h1 : Holds w1 g 58 (nodeC s b) := (h.below hb).holds.grown hg (by simpa using hne)
  refine ⟨by rw [hv], b, ⟨h.newer, ?_, (hk.far hne.symm _).far hne.symm _, hi⟩, ?_, .inl rfl⟩
  · exact (h1.put 5 (.int .i64 r)).put 6 (.int .i64 0)
  · have c1 : Chg (part g b) u w1 := Chg.of_grown hg (fun k e => by cases e; exact .inr rfl)
    have c2 := Chg.set w1 g 5 (.int .i64 r) (S := part g b) (.inl rfl)
    have c3 := Chg.set (w1.setCell ⟨g, 5, none⟩ (.int .i64 r)) g 6 (.int .i64 0) (S := part g b) (.inl rfl)
    exact (((Chg.of_below (part g b) hb).trans c1 (fun _ _ h => h)).trans c2 (fun _ _ h => h)).trans c3 (fun _ _ h => h)
theorem hear_tail {B g b n : Nat} {s : St} {r x q v : Int} {w : World} (h : En w B g b n s) (hn : n ≤ 100000) (hr : (Lit.int .i64 r).wf = true) (hx : F16 x) (hq : F16 q) (ht : takeB s r x q = true) (hv : (if movB s r x = true then 2 else 1) = v) (V : World) (hb : Below w.heap.size w V) (hX : Holds V w.heap.size 33 #[.int .u16 x, .int .u16 q]) :
    V.drew.cell? ⟨w.heap.size, 0, none⟩ = some (.int .u16 x) ∧ V.drew.cell? ⟨w.heap.size, 1, none⟩ = some (.int .u16 q) ∧ V.drew.cell? ⟨g, 8, none⟩ = some (.map (some b)) ∧
    ∃ w1, (Instr.mapUpdate 56 (.map (some b)) (.int .i64 r) (.agg #[.int .u16 x, .int .u16 q])).run Try.prog V.drew = .ok () w1 ∧ w1.cell? ⟨g, 5, none⟩ = some (.int .i64 s.root) ∧ w1.frozen? ⟨g, 5, none⟩ = false ∧
      w1.cell? ⟨g, 6, none⟩ = some (.int .i64 s.waited) ∧ w1.frozen? ⟨g, 6, none⟩ = false ∧ Hid (Heard B g b n s r x q w (.returned (.int .i64 v)) ((w1.setCell ⟨g, 5, none⟩ (.int .i64 r)).setCell ⟨g, 6, none⟩ (.int .i64 0))) := by
  have hu : Below w.heap.size w V.drew := hb.drew
  obtain ⟨w1, e1, hk, hg⟩ := (h.below hu).km.put hn r hr (x, q)
  have h1 : Holds w1 g 58 (nodeC s b) := (h.below hu).holds.grown hg (by simpa using h.ne)
  exact ⟨hX.cell 0, hX.cell 1, (h.below hu).holds.cell 8, w1, e1, h1.cell 5, h1.soft 5, h1.cell 6, h1.soft 6, Lib.hid (hear_yes h hx hq ht hv hu hk hg)⟩
theorem hear_any (w : World) (B g b n : Nat) (s : St) (h : En w B g b n s) (hn : n ≤ 100000) (r x q : Int) (hr : (Lit.int .i64 r).wf = true) (hx : F16 x) (hq : F16 q) : Calls Try.prog 16 #[.pointer (some ⟨g, 0, none⟩), .int .i64 r, .agg #[.int .u16 x, .int .u16 q]] w (Heard B g b n s r x q w) := by
  have hbw := h.newer
  have hgl := h.lt
  have hbl := h.ltb
  obtain ⟨w0, hw0⟩ : ∃ w0, w0 = w.alloc (.cells #[.int .u16 x, .int .u16 q] 33) := ⟨_, rfl⟩
  have hb0 : Below w.heap.size w w0 := by rw [hw0]; exact below_alloc w _
  have hbox : Holds w0 w.heap.size 33 #[.int .u16 x, .int .u16 q] := by rw [hw0]; exact Holds.new _ _ _
  have h0 := h.below hb0
  have hheed := heeds_any w0 B g b n s h0 r
  have hno := fun w' (ht : takeB s r x q = false) hb => hear_no (r := r) (x := x) (q := q) w w' h ht hb
  cases hh : heedB s r with
  | false =>
    rw [hh] at hheed
    have ht : takeB s r x q = false := by unfold takeB; rw [hh]; rfl
    have HNo := Lib.hid (fun w' => hno w' ht)
    have HB0 := Lib.hid hb0
    clear hno ht hh h0 hbox hb0 h
    rw [hw0] at hheed
    go_enter Try.func16, Try.ntmps16
    go_wp2_with (go_at_call 26; refine hheed.mono ?_; rintro e w' ⟨rfl, nq, rfl⟩)
    go_ret
    exact HNo.out _ (by rw [← hw0]; exact below_drewN HB0.out nq)
  | true =>
    rw [hh] at hheed
    obtain ⟨hr0, hr1, _⟩ := (heed_iff s r).1 hh
    have hknow := h.inv.knows
    cases hf : s.f r with
    | none =>
      have ht : takeB s r x q = true := by unfold takeB freshB; rw [hh, hf]; rfl
      have hne : r ≠ s.root := by
        rintro rfl
        obtain ⟨p, hp⟩ := hknow hr0 (by omega)
        rw [hf] at hp
        cases hp
      have hv : (if movB s r x = true then 2 else 1) = (2 : Int) := by
        unfold movB
        rw [decide_eq_true (.inl hne)]
        rfl
      have htail := hear_tail h hn hr hx hq ht hv
      have hlk := fun m => (h0.drewN m).km.look r hr
      rw [hf] at hlk
      simp only [markV, Option.getD_none, Option.isSome_none] at hlk
      obtain ⟨c0, _, _, _, _, c5, _, _, c8⟩ := h0.cells
      have d5 : (r != s.root) = true := by simp [hne]
      have HT := Lib.hid htail
      have HB0 := Lib.hid hb0
      have HBX := Lib.hid hbox
      clear htail hb0 hbox hf hv ht hno h h0 hknow hh
      rw [hw0] at hheed c0 c5 c8
      rw [hw0] at hlk
      go_enter Try.func16, Try.ntmps16
      go_upto_region 7 with (go_at_call 26; refine hheed.mono ?_; rintro e w' ⟨rfl, nq, rfl⟩)
      have hV := (below_drewN HB0.out nq).alloc (o := .cells #[.int .u16 0, .int .u16 0] 33) (below_drewN HB0.out nq).size
      have hX := (HBX.out.drewN nq).alloc (.cells #[.int .u16 0, .int .u16 0] 33)
      rw [hw0] at hV hX
      clear hw0 HB0 HBX hlk c0 c5 c8 hheed
      generalize (((w.alloc (.cells #[.int .u16 x, .int .u16 q] 33)).drewN nq).alloc (.cells #[.int .u16 0, .int .u16 0] 33)) = V at *
      obtain ⟨x0, x1, k8, w1, e1, k5, f5, k6, f6, HF⟩ := HT.out V hV hX
      clear HT hV hX
      go_region
      go_wp2
      go_ret
      exact HF.out
    | some p =>
      obtain ⟨p1, p2⟩ := p
      have hlk := fun m => (h0.drewN m).km.look r hr
      rw [hf] at hlk
      simp only [markV, Option.getD_some, Option.isSome_some] at hlk
      have hfresh : freshB s r x q = newM x q p1 p2 := by unfold freshB; rw [hf]
      have hnew := fun W => mnewer_any W x q p1 p2
      unfold markV at hnew
      simp only [] at hnew
      obtain ⟨c0, _, _, _, _, c5, _, _, c8⟩ := h0.cells
      cases hnn : newM x q p1 p2 with
      | false =>
        have ht : takeB s r x q = false := by unfold takeB; rw [hh, hfresh, hnn]; rfl
        have HNo := Lib.hid (fun w' => hno w' ht)
        have HB0 := Lib.hid hb0
        have hh' := below_drewN hb0
        rw [hnn] at hnew
        clear hno ht hh h0 hbox hb0 h hf hfresh hnn hknow hh'
        rw [hw0] at hheed c0 c5 c8
        rw [hw0] at hlk
        go_enter Try.func16, Try.ntmps16
        go_wp2_with (first
          | (go_at_call 26; refine hheed.mono ?_; rintro e w' ⟨rfl, nq, rfl⟩)
          | (go_at_call 27; (with_reducible refine (hnew _).mono ?_); rintro e w' ⟨rfl, hb'⟩))
        go_ret
        have hV := (below_drewN HB0.out nq).alloc (o := .cells #[.int .u16 p1, .int .u16 p2] 33) (below_drewN HB0.out nq).size
        rw [hw0] at hV
        exact HNo.out _ (hV.trans (hb'.mono hV.size))
      | true =>
        have ht : takeB s r x q = true := by unfold takeB; rw [hh, hfresh, hnn]; rfl
        rw [hnn] at hnew
        have hcase : ∃ v : Int, (if movB s r x = true then 2 else 1) = v ∧ (((r != s.root) = true ∧ v = 2) ∨ ((r != s.root) = false ∧ (x != p1) = true ∧ v = 2) ∨ ((r != s.root) = false ∧ (x != p1) = false ∧ v = 1)) := by
          unfold movB
          rw [hf]
          simp only [Option.getD_some]
          by_cases hne : r = s.root <;> by_cases hxx : x = p1 <;> simp [hne, hxx]
        obtain ⟨v, hv, hcase⟩ := hcase
        have htail := hear_tail h hn hr hx hq ht hv
        have HT := Lib.hid htail
        have HB0 := Lib.hid hb0
        have HBX := Lib.hid hbox
        have HE := Lib.hid h0
        clear htail hb0 hbox hf hv ht hno h h0 hknow hh hfresh hnn
        rw [hw0] at hheed c0 c5 c8
        rw [hw0] at hlk
        have hstep : ∀ nq w', Below (((w0.drewN nq).alloc (.cells #[.int .u16 p1, .int .u16 p2] 33)).heap.size) ((w0.drewN nq).alloc (.cells #[.int .u16 p1, .int .u16 p2] 33)) w' →
            Below w.heap.size w w' ∧ Holds w' w.heap.size 33 #[.int .u16 x, .int .u16 q] ∧ Holds w' (w.heap.size + 1) 33 #[.int .u16 p1, .int .u16 p2] ∧ w'.cell? ⟨g, 5, none⟩ = some (.int .i64 s.root) := fun nq w' hb' => by
          have hs0 : w0.heap.size = w.heap.size + 1 := by rw [hw0, size_alloc]
          have hV := (below_drewN HB0.out nq).alloc (o := .cells #[.int .u16 p1, .int .u16 p2] 33) (below_drewN HB0.out nq).size
          have hX := (HBX.out.drewN nq).alloc (.cells #[.int .u16 p1, .int .u16 p2] 33)
          have hP := Holds.new (w0.drewN nq) 33 #[.int .u16 p1, .int .u16 p2]
          have hG := (HE.out.drewN nq).holds.alloc (.cells #[.int .u16 p1, .int .u16 p2] 33)
          have hP' : Holds ((w0.drewN nq).alloc (.cells #[.int .u16 p1, .int .u16 p2] 33)) (w.heap.size + 1) 33 #[.int .u16 p1, .int .u16 p2] := by
            rw [← hs0]
            exact hP
          exact ⟨hV.trans (hb'.mono hV.size), hX.below hb' hX.lt, hP'.below hb' hP'.lt, (hG.below hb' hG.lt).cell 5⟩
        rw [hw0] at hstep
        clear HB0 HBX HE hw0
        rcases hcase with ⟨d5, rfl⟩ | ⟨d5, dx, rfl⟩ | ⟨d5, dx, rfl⟩ <;>
        · go_enter Try.func16, Try.ntmps16
          go_upto_region 7 with (first
            | (go_at_call 26; refine hheed.mono ?_; rintro e w' ⟨rfl, nq, rfl⟩)
            | (go_at_call 27; (with_reducible refine (hnew _).mono ?_); rintro e V ⟨rfl, hb'⟩; obtain ⟨hV, hX, hP, k5⟩ := hstep nq V hb'; have x0 := hX.cell 0; have x1 := hX.cell 1; have p0 := hP.cell 0; have p1 := hP.cell 1))
          obtain ⟨x0, x1, k8, w1, e1, k5, f5, k6, f6, HF⟩ := HT.out V hV hX
          clear HT hV hX hP p0 p1 hstep
          go_region
          go_wp2
          go_ret
          exact HF.out
end Go.Proofs.Ytpcbbpcibmpopaa

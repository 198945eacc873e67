/- The line of a state, the code's. -/
import Derived.Test.YthhgochnlbiaaaaLns
import Derived.Test.YthhgochnlbiaaaaMay
import Derived.Great.BuildSlice
namespace Go.Proofs.Ythhgochnlbiaaaa
open Go.ChangeShapes Go.WideShapes Go.ChangeAt Go.RowKit

section
variable {ops : Array Oper} {rest : List Oper} {op : Oper} {a : Act} {w : World} {Q : Exit → Act → World → Prop}
/-- A slice of one byte. -/
theorem bsK {v : Int} (hgd : op.guard = none) (x : Operand) (ho : op.op = .buildSlice 40 1 #[(0, x)]) (hx : a.eval x = .int .u8 v)
    (h : ∀ b w', RowAt w' (some ⟨b, 0, none⟩) [v] → Below w.heap.size w w' → wpList Try.prog ops Q rest (a.put op.dst (.slice (some ⟨b, 0, none⟩) 1 1)) w') : wpList Try.prog ops Q (op :: rest) a w :=
  wpList_plain hgd fun K hK => by
    obtain ⟨i, hi, hz0, hz1, hz2⟩ := info_parts Try.info5
    have hrow : RowAt (w.alloc (.cells #[.int .u8 v] 5)) (some ⟨w.heap.size, 0, none⟩) [v] := (row_new w [v] 1 rfl (by omega)).at
    refine wp_buildSlice 40 5 1 _ ho #[.int .u8 v] i _ Try.underlying40 hi hz0 (by rw [hz1]; decide) (by rw [hz1]; decide) ?_ (hK _ _ (h _ _ hrow (bel1 _ _)))
    have := Great.fill_whole (s := 1) (by decide) [Value.int .u8 v] ((Array.range (1 * i.size)).map ((Value.int .u8 0).cells[· % (Value.int .u8 0).cells.size]!))
      (by intro u hu; simp at hu; subst hu; rfl) (by simp [hz1])
    rw [hz1] at this ⊢
    simpa [hx, Value.cells] using this
/-- Bytes turned into a text. -/
theorem cvK {ao : Option Addr} {len cap : Nat} {zs : List Int} (hr : RowAt w ao zs) (hl : zs.length = len) (hgd : op.guard = none) (x : Operand) (ho : op.op = .convert 40 9 x) (hx : a.eval x = .slice ao len cap)
    (h : wpList Try.prog ops Q rest (a.put op.dst (.string (strOfNums zs))) w) : wpList Try.prog ops Q (op :: rest) a w :=
  wpList_plain hgd fun K hK => by
    have kc := run_str w ao zs len cap hl hr
    unfold Oper.wp execOp
    simp only [ho, hx]
    simp [kc, go_sem]
    exact hK _ _ h
end
theorem cellkept {w w' : World} {b i : Nat} {v : Value} (h : w.cell? ⟨b, i, none⟩ = some v) (hb : Below w.heap.size w w') : w'.cell? ⟨b, i, none⟩ = some v := by
  rw [World.cell?_of_block (w := w) (a := ⟨b, i, none⟩) (hb.block b (World.block_lt_of_cell? w _ h))]; exact h
/-- Numbers of 64 bits, a byte. -/
def OkS (s : St) : Prop := I64 s.id ∧ (0 ≤ s.kind ∧ s.kind < 256) ∧ I64 s.next ∧ I64 s.other
theorem dig3_yes {v : Int} (h : digOk v 3 = true) : digS v 3 = strOfNums (decL v 3) ∧ (digS v 3).size = 3 := by
  have : digS v 3 = strOfNums (decL v 3) := by unfold digS; rw [if_pos h]; rfl
  exact ⟨this, by rw [this, strOfNums_size, decL_length]⟩
def LnAns (w : World) (s : St) (e : Ending) (w' : World) : Prop := e = .returned (.tuple #[.string (lineS s), .bool (lineK s)]) ∧ Below w.heap.size w w'
theorem ln_no {w w' : World} {s : St} (h : lineK s = false) (hb : Below w.heap.size w w') : LnAns w s (.returned (.tuple #[.string ⟨#[]⟩, .bool false])) w' := ⟨by rw [h, line_no h], hb⟩
theorem ln_yes {w w' : World} {s : St} {t : ByteArray} (h : lineK s = true) (ht : t = strOfNums (lineL s)) (hb : Below w.heap.size w w') : LnAns w s (.returned (.tuple #[.string t, .bool true])) w' := ⟨by rw [h, line_yes h, ht], hb⟩
set_option maxHeartbeats 8000000 in
theorem line21 (s : St) (w : World) (ho : OkS s) : Calls Try.prog 21 #[s.val] w (LnAns w s) := by
  obtain ⟨i, k, n, o⟩ := s
  have HI : Hid (i ≤ 9223372036854775807) := Int.le_of_lt_add_one ho.1.2
  have HN : Hid (n ≤ 9223372036854775807) := Int.le_of_lt_add_one ho.2.2.1.2
  have HO : Hid (o ≤ 9223372036854775807) := Int.le_of_lt_add_one ho.2.2.2.2
  clear ho
  have hline : lineK ⟨i, k, n, o⟩ = (digOk i 3 && digOk n 3 && digOk o 3 && kindB k) := rfl
  cases h1 : digOk i 3
  · have HF : Hid (lineK ⟨i, k, n, o⟩ = false) := by unfold Hid; rw [hline, h1]; rfl
    have H1 := hid h1
    clear hline h1
    go_enter Try.func21, Try.ntmps21
    go_wp2_with (first | (go_at_call 29; have kill := K3.out; refine (digits10 _ _ _ HO.out).mono ?_; rintro e wd3 ⟨rfl, ld⟩; have c1 := cellkept c1 ld; have L5 := hid (sq L3.out ld); have K5 : Hid True := trivial; clear c3 ld kill K3 L3) | (go_at_call 29; have kill := K2.out; refine (digits10 _ _ _ HN.out).mono ?_; rintro e wd2 ⟨rfl, ld⟩; have c1 := cellkept c1 ld; have c3 := cellkept c3 ld; have L3 := hid (sq L2.out ld); have K3 : Hid True := trivial; clear c2 ld kill K2 L2) | (go_at_call 29; have kill := K1.out; refine (digits10 _ _ _ HI.out).mono ?_; rintro e wd1 ⟨rfl, ld⟩; rw [H1.out]; have c1 := cellkept c1 ld; have c2 := cellkept c2 ld; have c3 := cellkept c3 ld; have L2 := hid (sq L1.out ld); have K2 : Hid True := trivial; clear c0 ld kill K1 L1) | (refine bx34 (r := ⟨i, k, n, o⟩) rfl _ rfl rfl ?_; intro b1 w1 hb1 v1 l1; have c0 := v1.cell 0 rfl; have c1 := v1.cell 1 rfl; have c2 := v1.cell 2 rfl; have c3 := v1.cell 3 rfl; have L1 := hid l1; have K1 : Hid True := trivial; clear v1 l1 hb1))
    go_ret2
    exact ln_no HF.out L5.out
  cases h2 : digOk n 3
  · have HF : Hid (lineK ⟨i, k, n, o⟩ = false) := by unfold Hid; rw [hline, h1, h2]; rfl
    have H1 := hid h1
    have H2 := hid h2
    clear hline h1 h2
    go_enter Try.func21, Try.ntmps21
    go_wp2_with (first | (go_at_call 29; have kill := K3.out; refine (digits10 _ _ _ HO.out).mono ?_; rintro e wd3 ⟨rfl, ld⟩; have c1 := cellkept c1 ld; have L5 := hid (sq L3.out ld); have K5 : Hid True := trivial; clear c3 ld kill K3 L3) | (go_at_call 29; have kill := K2.out; refine (digits10 _ _ _ HN.out).mono ?_; rintro e wd2 ⟨rfl, ld⟩; rw [H2.out]; have c1 := cellkept c1 ld; have c3 := cellkept c3 ld; have L3 := hid (sq L2.out ld); have K3 : Hid True := trivial; clear c2 ld kill K2 L2) | (go_at_call 29; have kill := K1.out; refine (digits10 _ _ _ HI.out).mono ?_; rintro e wd1 ⟨rfl, ld⟩; rw [H1.out]; have c1 := cellkept c1 ld; have c2 := cellkept c2 ld; have c3 := cellkept c3 ld; have L2 := hid (sq L1.out ld); have K2 : Hid True := trivial; clear c0 ld kill K1 L1) | (refine bx34 (r := ⟨i, k, n, o⟩) rfl _ rfl rfl ?_; intro b1 w1 hb1 v1 l1; have c0 := v1.cell 0 rfl; have c1 := v1.cell 1 rfl; have c2 := v1.cell 2 rfl; have c3 := v1.cell 3 rfl; have L1 := hid l1; have K1 : Hid True := trivial; clear v1 l1 hb1))
    go_ret2
    exact ln_no HF.out L5.out
  cases h3 : digOk o 3
  · have HF : Hid (lineK ⟨i, k, n, o⟩ = false) := by unfold Hid; rw [hline, h1, h2, h3]; rfl
    have H1 := hid h1
    have H2 := hid h2
    have H3 := hid h3
    clear hline h1 h2 h3
    go_enter Try.func21, Try.ntmps21
    go_wp2_with (first | (go_at_call 29; have kill := K3.out; refine (digits10 _ _ _ HO.out).mono ?_; rintro e wd3 ⟨rfl, ld⟩; rw [H3.out]; have c1 := cellkept c1 ld; have L5 := hid (sq L3.out ld); have K5 : Hid True := trivial; clear c3 ld kill K3 L3) | (go_at_call 29; have kill := K2.out; refine (digits10 _ _ _ HN.out).mono ?_; rintro e wd2 ⟨rfl, ld⟩; rw [H2.out]; have c1 := cellkept c1 ld; have c3 := cellkept c3 ld; have L3 := hid (sq L2.out ld); have K3 : Hid True := trivial; clear c2 ld kill K2 L2) | (go_at_call 29; have kill := K1.out; refine (digits10 _ _ _ HI.out).mono ?_; rintro e wd1 ⟨rfl, ld⟩; rw [H1.out]; have c1 := cellkept c1 ld; have c2 := cellkept c2 ld; have c3 := cellkept c3 ld; have L2 := hid (sq L1.out ld); have K2 : Hid True := trivial; clear c0 ld kill K1 L1) | (refine bx34 (r := ⟨i, k, n, o⟩) rfl _ rfl rfl ?_; intro b1 w1 hb1 v1 l1; have c0 := v1.cell 0 rfl; have c1 := v1.cell 1 rfl; have c2 := v1.cell 2 rfl; have c3 := v1.cell 3 rfl; have L1 := hid l1; have K1 : Hid True := trivial; clear v1 l1 hb1))
    go_ret2
    exact ln_no HF.out L5.out
  cases h4 : kindB k
  · have HF : Hid (lineK ⟨i, k, n, o⟩ = false) := by unfold Hid; rw [hline, h1, h2, h3, h4]; rfl
    have H1 := hid h1
    have H2 := hid h2
    have H3 := hid h3
    have H4 := hid h4
    clear hline h1 h2 h3 h4
    go_enter Try.func21, Try.ntmps21
    go_wp2_with (first | (go_at_call 30; have kill := K4.out; refine (isKind30 k _).mono ?_; rintro e wk ⟨rfl, rfl⟩; rw [H4.out]; have L5 := hid L4.out; have K5 : Hid True := trivial; clear kill K4) | (go_at_call 29; have kill := K3.out; refine (digits10 _ _ _ HO.out).mono ?_; rintro e wd3 ⟨rfl, ld⟩; rw [H3.out]; have c1 := cellkept c1 ld; have L4 := hid (sq L3.out ld); have K4 : Hid True := trivial; clear c3 ld kill K3 L3) | (go_at_call 29; have kill := K2.out; refine (digits10 _ _ _ HN.out).mono ?_; rintro e wd2 ⟨rfl, ld⟩; rw [H2.out]; have c1 := cellkept c1 ld; have c3 := cellkept c3 ld; have L3 := hid (sq L2.out ld); have K3 : Hid True := trivial; clear c2 ld kill K2 L2) | (go_at_call 29; have kill := K1.out; refine (digits10 _ _ _ HI.out).mono ?_; rintro e wd1 ⟨rfl, ld⟩; rw [H1.out]; have c1 := cellkept c1 ld; have c2 := cellkept c2 ld; have c3 := cellkept c3 ld; have L2 := hid (sq L1.out ld); have K2 : Hid True := trivial; clear c0 ld kill K1 L1) | (refine bx34 (r := ⟨i, k, n, o⟩) rfl _ rfl rfl ?_; intro b1 w1 hb1 v1 l1; have c0 := v1.cell 0 rfl; have c1 := v1.cell 1 rfl; have c2 := v1.cell 2 rfl; have c3 := v1.cell 3 rfl; have L1 := hid l1; have K1 : Hid True := trivial; clear v1 l1 hb1))
    go_ret2
    exact ln_no HF.out L5.out
  · have HT : Hid (lineK ⟨i, k, n, o⟩ = true) := by unfold Hid; rw [hline, h1, h2, h3, h4]; rfl
    have e1 := dig3_yes h1
    have e2 := dig3_yes h2
    have e3 := dig3_yes h3
    obtain ⟨D1, hd1⟩ : ∃ D, digS i 3 = D := ⟨_, rfl⟩
    obtain ⟨D2, hd2⟩ : ∃ D, digS n 3 = D := ⟨_, rfl⟩
    obtain ⟨D3, hd3⟩ : ∃ D, digS o 3 = D := ⟨_, rfl⟩
    rw [hd1] at e1
    rw [hd2] at e2
    rw [hd3] at e3
    have z1 := e1.2
    have z2 := e2.2
    have z3 := e3.2
    obtain ⟨KS, hks⟩ : ∃ D, strOfNums [k] = D := ⟨_, rfl⟩
    have zk : KS.size = 1 := by rw [← hks, strOfNums_size]; rfl
    have HX : Hid (D1 ++ ⟨#[32]⟩ ++ KS ++ ⟨#[32]⟩ ++ D2 ++ ⟨#[32]⟩ ++ D3 ++ ⟨#[10]⟩ = strOfNums (lineL ⟨i, k, n, o⟩)) := by
      unfold Hid; rw [e1.1, e2.1, e3.1, ← hks]; exact line_cat ⟨i, k, n, o⟩
    have H1 := hid h1
    have H2 := hid h2
    have H3 := hid h3
    have H4 := hid h4
    have HD1 := hid hd1
    have HD2 := hid hd2
    have HD3 := hid hd3
    have HKS := hid hks
    clear hline h1 h2 h3 h4 e1 e2 e3 hd1 hd2 hd3 hks
    go_enter Try.func21, Try.ntmps21
    go_wp2_with (first | (have kill := K6.out; refine cvK R6.out rfl rfl _ rfl rfl ?_; rw [HKS.out]; have L7 := hid L6.out; clear kill K6 L6) | (have kill := K5.out; refine bsK rfl _ rfl rfl ?_; intro b6 w6 r6 l6; have R6 := hid r6; have L6 := hid (sq L5.out l6); have K6 : Hid True := trivial; clear r6 l6 kill K5) | (go_at_call 30; have kill := K4.out; refine (isKind30 k _).mono ?_; rintro e wk ⟨rfl, rfl⟩; rw [H4.out]; have L5 := hid L4.out; have K5 : Hid True := trivial; clear kill K4) | (go_at_call 29; have kill := K3.out; refine (digits10 _ _ _ HO.out).mono ?_; rintro e wd3 ⟨rfl, ld⟩; rw [H3.out]; rw [HD3.out]; have c1 := cellkept c1 ld; have L4 := hid (sq L3.out ld); have K4 : Hid True := trivial; clear c3 ld kill K3 L3) | (go_at_call 29; have kill := K2.out; refine (digits10 _ _ _ HN.out).mono ?_; rintro e wd2 ⟨rfl, ld⟩; rw [H2.out]; rw [HD2.out]; have c1 := cellkept c1 ld; have c3 := cellkept c3 ld; have L3 := hid (sq L2.out ld); have K3 : Hid True := trivial; clear c2 ld kill K2 L2) | (go_at_call 29; have kill := K1.out; refine (digits10 _ _ _ HI.out).mono ?_; rintro e wd1 ⟨rfl, ld⟩; rw [H1.out]; rw [HD1.out]; have c1 := cellkept c1 ld; have c2 := cellkept c2 ld; have c3 := cellkept c3 ld; have L2 := hid (sq L1.out ld); have K2 : Hid True := trivial; clear c0 ld kill K1 L1) | (refine bx34 (r := ⟨i, k, n, o⟩) rfl _ rfl rfl ?_; intro b1 w1 hb1 v1 l1; have c0 := v1.cell 0 rfl; have c1 := v1.cell 1 rfl; have c2 := v1.cell 2 rfl; have c3 := v1.cell 3 rfl; have L1 := hid l1; have K1 : Hid True := trivial; clear v1 l1 hb1))
    go_ret2
    exact ln_yes HT.out HX.out L7.out
end Go.Proofs.Ythhgochnlbiaaaa
